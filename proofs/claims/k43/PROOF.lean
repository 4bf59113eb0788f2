import PyProof.Rows.All
import Wide.All
import OpenK.AllK
import Wide.FinOn
import HandS.ForMost
import HandS.Codes
import HandS.Wide
import HandS.Deep
import HandS.IsInst
import HandS.TupAny
import HandS.StrMore
import HandS.Style
import HandS.ExcOwn
import HandS.Set
import HandS.SetTxt0
import HandS.SetFor
import HandS.Strs
import HandS.TupSets
import HandS.DeepEq
import HandS.DictComp
import HandS.Iter
import HandS.Walk
import KE.GoesEnum
import KE.GoesMore
import HandS.Dict
import HandS.Star
import HandS.Finally
import HandS.Exc
import HandS.ExcCtx
import HandS.ExcIs
import HandS.HotCalls
import HandS.ForExc
import PyProof.SetRoads
import KE.KRevSl
import PySem.Challenge.RW_changewhile_k43_runs_begun
import HandS.Zip
import HandS.ListItems
import KE.KDictZip
import HandS.ExcInit
import HandS.ExcField
import KE.KExcIs
set_option Elab.async false
set_option linter.all false
set_option maxRecDepth 100000
set_option maxHeartbeats 4000000
namespace L2
open PySem PySem.Spec PyProof.Rows
open C8 (Cal Def cal0 pe_c fnBody fnScope fnArgs)

/-! ### heaps: all but one list stays -/
def But (p : Addr) (H H' : Hp) : Prop := ∀ b o, b ≠ p → H b = some o → H' b = some o
theorem But.refl (p : Addr) (H : Hp) : But p H H := fun _ _ _ h => h
theorem But.trans {p : Addr} {H H1 H2 : Hp} (a : But p H H1) (b : But p H1 H2) : But p H H2 := fun c o n h => b c o n (a c o n h)
theorem But.same {p : Addr} {H H1 : Hp} (a : Same H H1) : But p H H1 := fun b o _ h => a b o h
theorem Same.new {q : Addr} {H : Hp} {o : HO} (h : H q = none) : Same H (upd H q o) := fun b u e => by
  rw [upd_ne (ne_of_none e h)]
  exact e
theorem But.new {p q : Addr} {H : Hp} {o : HO} (h : H q = none) : But p H (upd H q o) := But.same (Same.new h)
theorem But.pot {p : Addr} {H H' : Hp} {o : HO} (e : But p H H') : But p H (upd H' p o) := fun b u n h => by
  rw [upd_ne n]
  exact e b u n h
def hid (p : Addr) (H : Hp) : Hp := fun b => if b = p then none else H b
theorem hid_ne {p b : Addr} {H : Hp} (h : b ≠ p) : hid p H b = H b := if_neg h
theorem hid_some {p b : Addr} {H : Hp} {o : HO} (h : hid p H b = some o) : b ≠ p ∧ H b = some o := by
  unfold hid at h
  by_cases e : b = p
  · rw [if_pos e] at h; cases h
  · rw [if_neg e] at h; exact ⟨e, h⟩
theorem hid_but {p : Addr} {H H' : Hp} (e : But p H H') : Same (hid p H) (hid p H') := fun b o h => by
  obtain ⟨n, h⟩ := hid_some h
  rw [hid_ne n]
  exact e b o n h
theorem hid_in {p : Addr} {H : Hp} : Same (hid p H) H := fun b o h => (hid_some h).2

/-! ### data -/
section
variable {K : PySem.W.Frag}
theorem sqT_mono {H H' : Hp} {a : Addr} {xs : List V} (e : Same H H') (h : SqT K H a xs) : SqT K H' a xs := by
  rcases h with (h | ⟨o, h⟩) | h
  · exact .inl (.inl (e _ _ h))
  · exact .inl (.inr ⟨o, e _ _ h⟩)
  · exact .inr h
mutual
theorem Dp.mono {H H' : Hp} (e : Same H H') : ∀ {v : V} {d : PyData}, Dp K H v d → Dp K H' v d
  | _, _, .non => .non
  | _, _, .bl b => .bl b
  | _, _, .int i => .int i
  | _, _, .str x => .str x
  | _, _, .lst h a => .lst (e.seq h) (DpAll.mono e a)
  | _, _, .tup h a => .tup (sqT_mono e h) (DpAll.mono e a)
theorem DpAll.mono {H H' : Hp} (e : Same H H') : ∀ {vs : List V} {ds : List PyData}, DpAll K H vs ds → DpAll K H' vs ds
  | _, _, .nil => .nil
  | _, _, .cons h t => .cons (Dp.mono e h) (DpAll.mono e t)
end
theorem DpAll.len {H : Hp} : ∀ {vs : List V} {ds : List PyData}, DpAll K H vs ds → vs.length = ds.length
  | _, _, .nil => rfl
  | _, _, .cons _ t => congrArg (· + 1) (DpAll.len t)
theorem DpAll.app {H : Hp} : ∀ {vs ws : List V} {ds es : List PyData}, DpAll K H vs ds → DpAll K H ws es → DpAll K H (vs ++ ws) (ds ++ es)
  | _, _, _, _, .nil, t => t
  | _, _, _, _, .cons h s, t => .cons h (DpAll.app s t)
theorem DpAll.get {H : Hp} : ∀ {vs : List V} {ds : List PyData} {i : Nat} {d : PyData}, DpAll K H vs ds → ds[i]? = some d → ∃ v, vs[i]? = some v ∧ Dp K H v d
  | _, _, _, _, .nil, h => by simp at h
  | _, _, 0, _, .cons h _, e => by
    simp at e
    subst e
    exact ⟨_, rfl, h⟩
  | _, _, i + 1, _, .cons _ t, e => by
    obtain ⟨v, h1, h2⟩ := DpAll.get t (i := i) (by simpa using e)
    exact ⟨v, by simpa using h1, h2⟩
/-- data that does not come by the pot -/
abbrev Dh (K : PySem.W.Frag) (p : Addr) (H : Hp) (v : V) (d : PyData) : Prop := Dp K (hid p H) v d
abbrev DhAll (K : PySem.W.Frag) (p : Addr) (H : Hp) (vs : List V) (ds : List PyData) : Prop := DpAll K (hid p H) vs ds
theorem Dp.un {p : Addr} {H : Hp} {v : V} {d : PyData} (h : Dh K p H v d) : Dp K H v d := Dp.mono hid_in h
theorem Dp.but {p : Addr} {H H' : Hp} {v : V} {d : PyData} (e : But p H H') (h : Dh K p H v d) : Dh K p H' v d := Dp.mono (hid_but e) h
theorem DpAll.but {p : Addr} {H H' : Hp} {vs : List V} {ds : List PyData} (e : But p H H') (h : DhAll K p H vs ds) : DhAll K p H' vs ds := DpAll.mono (hid_but e) h
/-- a new tuple, a new list -/
theorem Dp.newT {p q : Addr} {H : Hp} {xs : List V} {ds : List PyData} (hq : H q = none) (n : q ≠ p) (h : DhAll K p H xs ds) : Dh K p (upd H q (.tup xs)) (.ref q) (.tuple ds) :=
  .tup (.inl (.inl (by rw [hid_ne n, upd_same]))) (DpAll.but (But.new hq) h)
theorem Dp.newL {p q : Addr} {H : Hp} {xs : List V} {ds : List PyData} (hq : H q = none) (n : q ≠ p) (h : DhAll K p H xs ds) : Dh K p (upd H q (.lst xs)) (.ref q) (.list ds) :=
  .lst (.inl (.inl (by rw [hid_ne n, upd_same]))) (DpAll.but (But.new hq) h)
theorem Dp.newT0 {q : Addr} {H : Hp} {xs : List V} {ds : List PyData} (hq : H q = none) (h : DpAll K H xs ds) : Dp K (upd H q (.tup xs)) (.ref q) (.tuple ds) :=
  .tup (.inl (.inl upd_same)) (DpAll.mono (Same.new hq) h)
theorem Dp.newL0 {q : Addr} {H : Hp} {xs : List V} {ds : List PyData} (hq : H q = none) (h : DpAll K H xs ds) : Dp K (upd H q (.lst xs)) (.ref q) (.list ds) :=
  .lst (.inl (.inl upd_same)) (DpAll.mono (Same.new hq) h)

/-! ### isinstance of data -/
def tyN : PyData → String
  | .none => "NoneType" | .bool _ => "bool" | .int _ => "int" | .str _ => "str" | .list _ => "list" | .tuple _ => "tuple" | .dict _ => "dict"
theorem Dp.ty {H : Hp} {v : V} {d : PyData} (h : Dp K H v d) : TyX K H v (.type (tyN d)) := by
  cases h with
  | non => exact .base .non
  | bl b => exact .base (.bl b)
  | int i => exact .base (.int i)
  | str x => exact .base (.str x)
  | lst hs _ =>
    rcases hs with (h | ⟨o, h⟩) | ⟨o, its, n, h, hc, _⟩
    · exact .base (.lst h)
    · exact .base (.frz h)
    · exact .kList h hc
  | tup hs _ =>
    rcases hs with (h | ⟨o, h⟩) | ⟨o, its, n, h, hc, _⟩
    · exact .base (.tup h)
    · exact .fTuple h
    · exact .kTuple h hc
def isS : PyData → Bool | .str _ => true | _ => false
def isT : PyData → Bool | .tuple _ => true | _ => false
def isL : PyData → Bool | .list _ => true | _ => false
def isB : PyData → Bool | .bool _ => true | _ => false
def isI : PyData → Bool | .bool _ => true | .int _ => true | _ => false
def isOf : String → PyData → Bool
  | "str", d => isS d
  | "tuple", d => isT d
  | "list", d => isL d
  | "bool", d => isB d
  | "int", d => isI d
  | _, _ => false
def tabN (a T : String) : Bool := a == T || (a == "bool" && T == "int")
theorem kitN : (["NoneType", "bool", "int", "str", "list", "tuple"].all fun a => ["str", "tuple", "list", "bool", "int"].all fun T => kitB a T == some (tabN a T)) = true := by decide +kernel
theorem kit_all {a T : String} (ha : a ∈ ["NoneType", "bool", "int", "str", "list", "tuple"]) (hT : T ∈ ["str", "tuple", "list", "bool", "int"]) : kitB a T = some (tabN a T) := by
  have h := List.all_eq_true.mp (List.all_eq_true.mp kitN a ha) T hT
  exact eq_of_beq h
theorem Dp.nodict {H : Hp} {v : V} {d : PyData} (h : Dp K H v d) : tyN d ≠ "dict" := by cases h <;> (intro e; exact absurd e (by simp [tyN]))
theorem isOf_tab {T : String} (hT : T ∈ ["str", "tuple", "list", "bool", "int"]) (d : PyData) : isOf T d = tabN (tyN d) T := by
  simp only [List.mem_cons, List.not_mem_nil, or_false] at hT
  rcases hT with rfl | rfl | rfl | rfl | rfl <;> cases d <;> first | rfl | decide
theorem isOf_kit {H : Hp} {v : V} {d : PyData} {T : String} (h : Dp K H v d) (hT : T ∈ ["str", "tuple", "list", "bool", "int"]) : kitB (tyN d) T = some (isOf T d) := by
  have n := h.nodict
  rw [isOf_tab hT]
  refine kit_all ?_ hT
  cases d <;> first | exact absurd rfl n | simp [tyN]
end
def rIsD (K : PySem.W.Frag) : List V → Hp → VK → Prop := fun xs H Q => ∃ (v : V) (d : PyData) (T : String), xs = [v, .ty T] ∧ Dp K H v d ∧ T ∈ ["str", "tuple", "list", "bool", "int"] ∧ Q (.bl (isOf T d)) H
section
variable {X : Cx}
theorem call_isD : CallR X (.builtin "isinstance") (rIsD X.K) := by
  intro pins s σ H xs us Q I r h
  obtain ⟨v, d, T, rfl, hd, hT, q⟩ := h
  exact call_isi pins s σ H _ us Q I r ⟨v, .ty T, .type (tyN d), .type T, isOf T d, rfl, .ty T, hd.ty, kit_ty (isOf_kit hd hT), q⟩
/-! ### repr of data -/
def shownB (d : PyData) : Prop := d.showable = true ∧ SeqAt.shaped d = true ∧ d.shown.length ≤ sizeLine
def rReprD (K : PySem.W.Frag) : List V → Hp → VK → Prop := fun xs H Q => ∃ (v : V) (d : PyData), xs = [v] ∧ Dp K H v d ∧ shownB d ∧ Q (.str d.shown) H
theorem call_reprD (hg : X.A.guards = some []) (hu : X.A.units + 70 < cLine) : CallR X (.builtin "repr") (rReprD X.K) := by
  intro pins s σ H xs us Q I r h
  obtain ⟨v, d, rfl, hd, ⟨hs, hsh, hl⟩, q⟩ := h
  obtain ⟨u, rfl, ru⟩ := vals1 r
  have hdep := SeqAt.depth_of_shaped hsh
  have hnd : d.hasDict = false := PyData.hasDict_of_canLay d (SeqAt.canLay_of_shaped hsh)
  obtain ⟨as, rd⟩ := Dp.reads I d v u hd ru
  have big : ∀ a, u = Value.ref a → wpAny (model X.prog X.w) X.A (call (.builtin "repr") [u]) (EP X pins σ Q) X.xe s := fun a e => by
    subst e
    exact repr_of_reads' rd hs (PyData.noDict_hsm hnd) hg (by omega) (fun _ _ e => e) (fun h' t tk k => ⟨.str d.shown, H, I.kept k, ⟨_, rfl⟩, q⟩) hl
  cases hd with
  | non =>
    cases ru
    exact PySem.P.repr_of_none ⟨.str _, H, I.tok _, ⟨_, rfl⟩, by simpa only [PyData.shown] using q⟩
  | bl b =>
    cases ru
    exact PySem.P.repr_of_bool ⟨.str _, H, I.tok _, ⟨_, rfl⟩, by simpa only [PyData.shown] using q⟩
  | int i =>
    obtain ⟨t, rfl⟩ := ru
    exact PySem.P.repr_of_int (by simpa [PyData.showable] using hs) ⟨.str _, H, I.tok _, ⟨_, rfl⟩, by simpa only [PyData.shown] using q⟩
  | str x =>
    obtain ⟨t, rfl⟩ := ru
    exact PySem.P.repr_of_str ⟨.str _, H, I.tok _, ⟨_, rfl⟩, by simpa only [PyData.shown] using q⟩ (by simpa only [PyData.shown] using hl)
  | lst _ _ => exact big _ ru
  | tup _ _ => exact big _ ru
end
/-! ### a comprehension over a text -/
theorem lc_str {z : Str} {g : TG} {tt : TT} {te : TE} {vs : List Nat} {σ : L2.St} {H1 : Hp} {D : Addr} {Qd : Hp → Prop} (Pv : Nat → Hp → Prop) (h0 : Pv 0 (upd H1 D (.lst [])))
    (hs : ∀ i c H, z.cps.toList[i]? = some c → Pv i H → g (.str ⟨#[c]⟩) (wipe σ vs) H fun σ2 H2 => wipe σ2 vs = wipe σ vs ∧ tt σ2 H2 fun b H3 =>
      if b = true then te σ2 H3 fun y H4 => ∃ acc, H4 D = some (.lst acc) ∧ acc.length < sizeLine ∧ Pv (i + 1) (upd H4 D (.lst (acc ++ [y]))) else Pv (i + 1) H3) (hd : ∀ H, Pv z.cps.toList.length H → Qd H) :
    ∃ W : Nat → Nat → Hp → Prop, (∃ m, W 0 m (upd H1 D (.lst []))) ∧ ∀ i m H, W i m H →
      ((Its z).stop i H ∧ Qd H) ∨ ((Its z).go i H ∧ ∃ Nx : Hp → Prop, (∀ H', Nx H' → ∃ m', m' < m ∧ W (i + 1) m' H') ∧ ∀ x H', (Its z).yld i H x H' → g x (wipe σ vs) H' fun σ2 H2 => wipe σ2 vs = wipe σ vs ∧ tt σ2 H2 fun b H3 =>
        if b = true then te σ2 H3 fun y H4 => ∃ acc, H4 D = some (.lst acc) ∧ acc.length < sizeLine ∧ Nx (upd H4 D (.lst (acc ++ [y]))) else Nx H3) := by
  have hz : z.cps.toList.length = z.cps.size := Array.length_toList
  refine ⟨fun i m H => m = z.cps.size - i ∧ i ≤ z.cps.size ∧ Pv i H, ⟨z.cps.size, by simp, Nat.zero_le _, h0⟩, ?_⟩
  rintro i m H ⟨rfl, hi, p⟩
  by_cases hlt : i < z.cps.size
  · refine .inr ⟨hlt, Pv (i + 1), fun H' p' => ⟨z.cps.size - (i + 1), by omega, rfl, hlt, p'⟩, fun x H' y => ?_⟩
    obtain ⟨e, c, hc, rfl⟩ := y
    subst e
    exact hs i c _ (by rw [Array.getElem?_toList]; exact hc) p
  · have e : i = z.cps.size := by omega
    subst e
    exact .inl ⟨Nat.le_refl _, hd H (by rw [hz]; exact p)⟩

/-! ### the pot: two numbers -/
structure Pot (H : Hp) (p : Addr) (x y : Int) : Prop where
  at_ : H p = some (.lst [.int x, .int y])
  x0 : 0 ≤ x
  y0 : 0 ≤ y
  y1 : y < 1099511627776
theorem Pot.ne {H : Hp} {p q : Addr} {x y : Int} (h : Pot H p x y) (hq : H q = none) : q ≠ p := fun e => by
  subst e
  rw [h.at_] at hq
  cases hq
theorem Pot.same {H H' : Hp} {p : Addr} {x y : Int} (h : Pot H p x y) (e : Same H H') : Pot H' p x y := ⟨e _ _ h.at_, h.x0, h.y0, h.y1⟩
theorem Pot.new {H : Hp} {p q : Addr} {x y : Int} {o : HO} (h : Pot H p x y) (hq : H q = none) : Pot (upd H q o) p x y := h.same (Same.new hq)
theorem hin_of {A : Around} {k : Nat} (hr : Room k A) : A.units + 65 < cLine := by have := hr.un; omega
theorem hrep_of {A : Around} {k : Nat} (hr : Room k A) : A.units + 70 < cLine := by have := hr.un; omega
end L2
set_option Elab.async false
set_option linter.all false
set_option maxRecDepth 100000
set_option maxHeartbeats 4000000
/-! set(a list), step by step by a predicate J i on heaps; sets of texts, of ints; sorted of them. -/
namespace L2
open PySem PySem.Spec PyProof.Rows
abbrev freshSet (w : World) : Obj := { cls := .type "set", dict := none, data := .set #[] 0 (.fresh 0 0 (!w.params.followText "set-order")) }
/-- what a set has got from the first i things -/
structure SetStep (P : Program) (w : World) (S : Addr) (J : Nat → Heap → Prop) (Pv : Nat → Value → Prop) : Prop where
  frame : ∀ i h h', J i h → (∀ o, h.get? S = some o → h'.get? S = some o) → J i h'
  step : ∀ (A : Around) (E : Value → Shared → Prop) i v (s : Shared) (Q : Bool → Shared → Prop), Pv i v → J i s.heap → (∀ b h' tk, Heap.SameBut S s.heap h' → s.toks ≤ tk → J (i + 1) h' → Q b { s with heap := h', toks := tk }) → wpAny (model P w) A (setAdd S v) Q E s
section
variable {P : Program} {w : World} {A : Around} {E : Value → Shared → Prop} {s : Shared}
theorem set_upd {I : Addr} {fp wr : List Addr} {G : Array GenState → Array GenState → Prop} {n : Nat} {Pv : Nat → Value → Prop} {St : Nat → Shared → Prop} {R : Result → Shared → Prop}
    (W : WalksS P w A.in1 I fp wr G n Pv St) {S : Addr} (hSf : S ∉ fp) {J : Nat → Heap → Prop} (T : SetStep P w S J Pv) :
    ∀ (k i : Nat) (s : Shared), n - i = k → i ≤ n → St i s → J i s.heap → (∀ s', Moved (S :: wr) G s s' → J n s'.heap → R (.ok (.ret .none)) s') →
      codeAny (model P w) A (.builtin "set.update.loop" ⟨[.ref S, .ref I], []⟩) R s := by
  have hSw : S ∉ wr := fun h => hSf (W.sub _ h)
  have up : ∀ b ∈ wr, b ∈ S :: wr := fun b hb => List.mem_cons_of_mem _ hb
  intro k
  induction k with
  | zero =>
    intro i s hk hi hst hJ hR
    have e : i = n := Nat.le_antisymm hi (by omega)
    subst e
    refine codeAny_builtin F.entry_set_update_loop ?_
    rw [Around.under_plainId F.plain_set_update_loop _]
    show wpAny _ A.in1 (pyNext (.ref I) >>= _) _ _ s
    refine wpAny_bind (W.done s _ _ hst fun s' hm => ?_)
    show wpAny _ A.in1 (ret Value.none) _ _ s'
    exact wpAny_pure (hR s' (hm.mono up) (T.frame _ _ _ hJ fun o e => hm.heap S o hSw e))
  | succ k ih =>
    intro i s hk hi hst hJ hR
    have hlt : i < n := by omega
    refine codeAny_builtin F.entry_set_update_loop ?_
    rw [Around.under_plainId F.plain_set_update_loop _]
    show wpAny _ A.in1 (pyNext (.ref I) >>= _) _ _ s
    refine wpAny_bind (W.item i s _ _ hlt hst fun v s' hP hst' hm => ?_)
    have hJ' := T.frame _ _ _ hJ fun o e => hm.heap S o hSw e
    show wpAny _ A.in1 (holding [v] (setAdd S v) >>= _) _ _ s'
    refine wpAny_bind (wpAny_holding (T.step _ _ i v s' _ hP hJ' fun b h' tk sb ht hJ2 => ?_))
    refine wpAny_pure ⟨plainId_quiet F.plain_set_update_loop _, ih (i + 1) _ (by omega) hlt (W.frame _ s' _ _ hst' ht fun c hc o e => ?_) hJ2 fun s'' hm'' hJ'' => ?_⟩
    · rw [sb.2 c fun z => hSf (z ▸ hc)]; exact e
    · refine hR s'' (Moved.trans W.gtrans ((hm.mono up).then_heap ht fun c o hc e => ?_) hm'') hJ''
      rw [sb.2 c fun z => hc (z ▸ List.mem_cons_self)]; exact e
set_option maxHeartbeats 6400000 in
theorem call_set_list {l : Addr} {items : Array Value} {J : Nat → Heap → Prop} {Q : Value → Shared → Prop} (hh : A.handled = none) (hl : s.heap.IsList l items)
    (T : SetStep P w s.heap.objs.size J fun i v => items[i]? = some v) (J0 : ∀ h : Heap, h.get? s.heap.objs.size = some (freshSet w) → J 0 h)
    (h : ∀ (h' : Heap) (tk : Nat), J items.size h' → (∀ b o, s.heap.get? b = some o → h'.get? b = some o) → Q (.ref s.heap.objs.size) { s with heap := h', toks := tk }) :
    wpAny (model P w) A (call (.type "set") [.ref l]) Q E s := by
  obtain ⟨c, tl, hmro⟩ := F.called_set.mro
  have hmade := F.called_set.made
  have hsub := F.called_set.sub
  refine wpAny_call (codeAny_of_tree ?_)
  show wpAny _ _ (callAny (.type "set") _) _ _ _
  refine wpAny_pure ⟨Code.quiet_builtin _ (by decide +kernel), codeAny_builtin F.entry_type_call ?_⟩
  rw [Around.under_plain (weight_type_call_type "set" [.ref l] []) rfl]
  have h1 := F.called_set.notType
  have h2 := F.called_set.canCreate
  have hct := F.typeCall_set_1 (.ref l)
  repeat (any_goals (first | assumption | wp_step))
  refine codeAny_mono (code_set_led1 (.ref l) (E := E) (Q₁ := fun obj s₁ => obj = .ref s.heap.objs.size ∧ s₁ = { s with heap := s.heap.push (freshSet w) }) ⟨rfl, rfl⟩) fun r s₁ hr => ?_
  cases r with
  | error e => exact hr
  | ok fl =>
    cases fl with
    | ret obj =>
      obtain ⟨rfl, rfl⟩ := hr
      have hS : (s.heap.push (freshSet w)).get? s.heap.objs.size = some (freshSet w) := Heap.get?_push_size _ rfl
      have hT : Shared.TypeIs { s with heap := s.heap.push (freshSet w) } (.ref s.heap.objs.size) "set" := ⟨_, hS, rfl⟩
      have hli := F.called_set.init.lookup
      have hbi := F.called_set.init.bind (.ref s.heap.objs.size)
      repeat (any_goals (first | assumption | wp_step))
      refine codeAny_mono (codeAny_call_builtin (R := wants (fun r s₂ => r = .none ∧ ∃ h' tk, s₂ = { s with heap := h', toks := tk } ∧ J items.size h' ∧ (∀ b o, s.heap.get? b = some o → h'.get? b = some o)) E) F.called_set.init.plain F.entry_set_init (check_set_init_1 hT ?_)) fun r₂ s₂ hr₂ => ?_
      · obtain ⟨ol, hol, hcl, nl, hdl⟩ := hl
        obtain ⟨ocls, odict, odata, oslots⟩ := ol
        simp only at hcl hdl
        subst hcl; subst hdl
        have hol' : (s.heap.push (freshSet w)).get? l = some { cls := .type "list", dict := odict, data := .seq items nl, slots := oslots } := Heap.get?_push_of_some _ hol
        have hsls := F.sub_list_set
        have hslf := F.sub_list_frozenset
        have hne : (Value.type "list" == Value.type "dict") = false := by decide
        have hl1 : (s.heap.push (freshSet w)).IsList l items := ⟨_, hol', rfl, nl, rfl⟩
        unfold Builtin.«set.__init__» noKeywords Builtin.Frozenset.updateFrom
        generalize hPI : pyIter = PI
        wp_walk
        subst hPI
        refine wpAny_pyIter_list hl1 ?_
        refine wpAny_bind (wpAny_runValue ?_)
        have hlS : l < s.heap.objs.size := Heap.lt_size hol
        have hh3 : A.in1.in1.in1.handled = none := by simp [hh]
        have hneI : l ≠ (s.heap.push (freshSet w)).objs.size := by
          rw [Heap.size_push]; exact Nat.ne_of_lt (Nat.lt_succ_of_lt hlS)
        have hSf : s.heap.objs.size ∉ [(s.heap.push (freshSet w)).objs.size, l] := by
          rw [Heap.size_push]; simp only [List.mem_cons, List.mem_singleton, List.not_mem_nil, or_false, not_or]
          exact ⟨Nat.ne_of_lt (Nat.lt_succ_self _), Nat.ne_of_gt hlS⟩
        refine set_upd ((Walks.list hh3 _ l hneI items).toS) hSf T (items.size - 0) 0 _ (by omega) (Nat.zero_le _)
          ⟨⟨_, Heap.get?_push_size _ rfl, rfl, rfl⟩, (hl1.push _)⟩ (J0 _ (Heap.get?_push_of_some _ hS)) fun s' hm hJ => ?_
        obtain ⟨h', g2, d', tk', os'⟩ := s'
        have eg : g2 = s.gens := hm.gens
        have ed : d' = s.drawn := hm.drawn
        have eo : os' = s.os := hm.os
        subst eg; subst ed; subst eo
        show wpAny _ _ _ _ _ _
        refine wpAny_pure ?_
        show wpAny _ _ (ret Value.none) _ _ _
        refine wpAny_pure ⟨rfl, h', tk', rfl, hJ, fun b o e => ?_⟩
        have hb := Heap.lt_size e
        refine hm.heap b o (fun z => ?_) (Heap.get?_push_of_some _ (Heap.get?_push_of_some _ e))
        rcases List.mem_cons.mp z with z | z
        · exact absurd hb (by rw [z]; exact Nat.lt_irrefl _)
        · have z := List.mem_singleton.mp z
          first
            | exact absurd hb (by rw [z, Heap.size_push]; exact Nat.not_lt_of_le (Nat.le_succ _))
            | exact absurd hb (by rw [z]; exact Nat.not_lt_of_le (Nat.le_succ _))
      · cases r₂ with
        | error e => exact hr₂
        | ok fl₂ =>
          cases fl₂ with
          | ret r =>
            obtain ⟨rfl, h', tk, rfl, hJ, hk⟩ := hr₂
            repeat (any_goals (first | assumption | wp_step))
            exact h _ _ hJ hk
          | _ => exact hr₂.elim
    | _ => exact hr.elim
end
end L2
set_option Elab.async false
set_option linter.all false
set_option maxRecDepth 100000
set_option maxHeartbeats 4000000
/-! set(a list of texts), sorted of it; set(a list of ints). -/
namespace L2
open PySem PySem.Spec PyProof.Rows PySem.Froz
/-- the set at a holds just the texts l -/
def SetX (P : Program) (w : World) (h : Heap) (a : Addr) (l : List Str) : Prop :=
  ∃ D : SD, h.get? a = some (sObj "set" D) ∧ TxOk P w D l ∧ l.Nodup ∧ Ris D.2.2.place.toList ∧ (w.params.followText "set-order" = true ∨ D.2.2.led = true)
theorem tail_ris {ep : Nat} {es1 : Array (Int × Value)} {t2 : SetTable} {b : Bool} (r : Ris t2.place.toList) : Ris (tailTx ep es1 t2 b).2.2.place.toList ∧ (tailTx ep es1 t2 b).2.2.led = t2.led := by
  unfold tailTx
  split
  · exact ⟨relayAll_ris _ _ _, relayAll_led _ _ _⟩
  · exact ⟨r, rfl⟩
theorem add_ris {h : Int} {v : Value} {D : SD} (r : Ris D.2.2.place.toList) : Ris (addTx h v D).2.2.place.toList ∧ (addTx h v D).2.2.led = D.2.2.led := by
  have r1 := layNew_ris D.2.2 D.1 h v r
  have l1 := layNew_led D.2.2 D.1 h v
  unfold addTx
  have r2 : Ris (if (layNew D.2.2 D.1 h v).2.1.plain = true then { (layNew D.2.2 D.1 h v).2.1 with plain := false } else (layNew D.2.2 D.1 h v).2.1).place.toList := by split <;> exact r1
  have l2 : (if (layNew D.2.2 D.1 h v).2.1.plain = true then { (layNew D.2.2 D.1 h v).2.1 with plain := false } else (layNew D.2.2 D.1 h v).2.1).led = D.2.2.led := by split <;> exact l1
  exact ⟨(tail_ris r2).1, (tail_ris r2).2.trans l2⟩
section
variable {P : Program} {w : World} {A : Around} {E : Value → Shared → Prop} {s : Shared}
theorem SetX.fresh {h : Heap} {a : Addr} (e : h.get? a = some (freshSet w)) : SetX P w h a [] :=
  ⟨(#[], 0, .fresh 0 0 (!w.params.followText "set-order")), e, TxOk.nil rfl, List.Pairwise.nil, List.Pairwise.nil, by
    show _ ∨ (!w.params.followText "set-order") = true
    cases w.params.followText "set-order"
    · exact .inr rfl
    · exact .inl rfl⟩
theorem SetX.keep {h h' : Heap} {a : Addr} {l : List Str} (x : SetX P w h a l) (k : ∀ o, h.get? a = some o → h'.get? a = some o) : SetX P w h' a l := by
  obtain ⟨D, e, r⟩ := x
  exact ⟨D, k _ e, r⟩
/-- one text more, or the same -/
def more (l : List Str) (k : Str) : List Str := if k ∈ l then l else k :: l
theorem SetX.add {a : Addr} {l : List Str} {k : Str} {u : Tok} {Q : Bool → Shared → Prop} (x : SetX P w s.heap a l) (hb : l.length + 1 < scanBound)
    (q : ∀ b h', Heap.SameBut a s.heap h' → SetX P w h' a (more l k) → Q b { s with heap := h' }) : wpAny (model P w) A (setAddHashed a (.str k u) (hashStr w k)) Q E s := by
  obtain ⟨D, e, F, nd, r, ld⟩ := x
  by_cases hk : k ∈ l
  · obtain ⟨es, ep, t⟩ := D
    have hd : (sObj "set" (es, ep, t)).data = .set es ep t := rfl
    have hf : t.fits es.size = true := F.fit
    have hel : ElemsOf (PySem.strKind P w) es.toList := F.el
    have hsz : es.size = l.length := F.sz
    have hb0 : es.size < scanBound := by omega
    have hkey : (PySem.strKind P w).is k (.str k u) = true := PySem.Froz.is_str k u
    obtain ⟨e1, he1, p1⟩ := (F.mem k).mp hk
    unfold setAddHashed setAddHashedIn
    refine wpAny_holding (wpAny_bind (wpAny_setState_of e hd hf ?_))
    dsimp only
    rw [byScan_of rfl hb0 hel]
    simp only [↓reduceIte]
    unfold setAddByScan
    refine wpAny_bind ?_
    refine wpAny_bind (wpAny_rule ?_)
    refine wpAny_bind (wpAny_setScan_of (knd := PySem.strKind P w) (k := k) hkey e hd hf hel ?_)
    cases hfi : List.findIdx? (fun e => (PySem.strKind P w).is k e.2) es.toList with
    | none =>
      have c := List.findIdx?_eq_none_iff.mp hfi e1 he1
      rw [p1] at c
      cases c
    | some j =>
      dsimp only
      refine wpAny_pure (wpAny_pure (q _ s.heap (Heap.SameBut.refl a s.heap) ?_))
      unfold more
      rw [if_pos hk]
      exact ⟨(es, ep, t), e, F, nd, r, ld⟩
  · refine add_x e F hk hb (q _ _ (Heap.SameBut.update s.heap a _) ?_)
    unfold more
    rw [if_neg hk]
    exact ⟨_, get_upd _ e rfl, add_ok u F, List.nodup_cons.mpr ⟨hk, nd⟩, (add_ris r).1, ld.imp id fun z => (add_ris r).2.trans z⟩
/-- what a set of these texts holds -/
def dd (xs : List Str) : List Str := xs.foldl more []
theorem dd_len : ∀ (xs l : List Str), (xs.foldl more l).length ≤ l.length + xs.length
  | [], l => Nat.le_refl _
  | x :: xs, l => by
    have h := dd_len xs (more l x)
    have h2 : (more l x).length ≤ l.length + 1 := by unfold more; split <;> simp
    simp only [List.foldl_cons, List.length_cons]
    omega
theorem dd_nodup : ∀ (xs l : List Str), l.Nodup → (xs.foldl more l).Nodup
  | [], l, h => h
  | x :: xs, l, h => dd_nodup xs _ (by
    unfold more
    split
    · exact h
    · rename_i c
      exact List.nodup_cons.mpr ⟨c, h⟩)
theorem dd_mem : ∀ (xs l : List Str) (k : Str), k ∈ xs.foldl more l ↔ k ∈ l ∨ k ∈ xs
  | [], l, k => by simp
  | x :: xs, l, k => by
    rw [List.foldl_cons, dd_mem xs]
    unfold more
    split
    · rename_i c
      exact ⟨fun z => z.elim .inl (fun y => .inr (List.mem_cons_of_mem _ y)), fun z => z.elim .inl fun y => (List.mem_cons.mp y).elim (fun y => .inl (y ▸ c)) .inr⟩
    · constructor
      · rintro (z | z)
        · exact (List.mem_cons.mp z).elim (fun y => .inr (y ▸ List.mem_cons_self)) .inl
        · exact .inr (List.mem_cons_of_mem _ z)
      · rintro (z | z)
        · exact .inl (List.mem_cons_of_mem _ z)
        · exact (List.mem_cons.mp z).elim (fun y => .inl (y ▸ List.mem_cons_self)) .inr
theorem take_more {xs : List Str} {i : Nat} {k : Str} (h : xs[i]? = some k) : more ((xs.take i).foldl more []) k = (xs.take (i + 1)).foldl more [] := by
  rw [List.take_succ, h, List.foldl_append] <;> rfl
theorem setX_steps (S : Addr) (xs : List Str) (hb : xs.length + 1 < scanBound) {items : Array Value} (hi : StrsAre items.toList xs) :
    SetStep P w S (fun i h => SetX P w h S ((xs.take i).foldl more [])) fun i v => items[i]? = some v where
  frame := fun i h h' x k => x.keep k
  step := fun A E i v s Q hv x q => by
    have hv' : items.toList[i]? = some v := by rw [Array.getElem?_toList]; exact hv
    have key : ∀ {vs : List Value} {ys : List Str}, StrsAre vs ys → ∀ {i : Nat} {v : Value}, vs[i]? = some v → ∃ k u, v = .str k u ∧ ys[i]? = some k := by
      intro vs ys h
      induction h with
      | nil => intro i v e; simp at e
      | cons x t h ih =>
        intro i v e
        cases i with
        | zero => exact ⟨x, t, by simpa using e.symm, rfl⟩
        | succ i => exact ih (by simpa using e)
    obtain ⟨k, u, rfl, hk⟩ := key hi hv'
    have hln : ((xs.take i).foldl more []).length ≤ xs.length := by
      have h1 := dd_len (xs.take i) []
      have h2 : (xs.take i).length ≤ xs.length := by rw [List.length_take]; omega
      simp only [List.length_nil] at h1
      omega
    unfold setAdd
    refine wpAny_holding ?_
    refine wpAny_bind ((PySem.strKind P w).pyHash (k := k) (PySem.Froz.is_str k u) ?_)
    refine SetX.add (s := { s with toks := s.toks + 1 }) (l := (xs.take i).foldl more []) x (by omega) fun b h' sb x' => ?_
    exact q b h' _ sb (Nat.le_succ _) (by rw [← take_more hk]; exact x')
theorem perm_of : ∀ (l ss : List Str), l.Nodup → (∀ x ∈ l, x ∈ ss) → ss.length ≤ l.length → ss.Perm l
  | [], ss, _, _, h => by
    cases ss with
    | nil => exact List.Perm.nil
    | cons a b => simp at h
  | x :: l, ss, nd, h, hl => by
    obtain ⟨a, b, rfl⟩ := List.append_of_mem (h x List.mem_cons_self)
    obtain ⟨n1, n2⟩ := List.nodup_cons.mp nd
    have ih := perm_of l (a ++ b) n2 (fun y hy => by
      have z := h y (List.mem_cons_of_mem _ hy)
      rcases List.mem_append.mp z with z | z
      · exact List.mem_append_left _ z
      · rcases List.mem_cons.mp z with z | z
        · exact absurd (z ▸ hy) n1
        · exact List.mem_append_right _ z) (by
      simp only [List.length_append, List.length_cons] at hl ⊢
      omega)
    exact List.perm_middle.trans (ih.cons x)
theorem StrsAre.mem_ {vs : List Value} {ss : List Str} (h : StrsAre vs ss) : ∀ {x : Str} {u : Tok}, Value.str x u ∈ vs → x ∈ ss := by
  induction h with
  | nil => intro x u e; cases e
  | cons y t h ih =>
    intro x u e
    rcases List.mem_cons.mp e with z | z
    · cases z; exact List.mem_cons_self
    · exact List.mem_cons_of_mem _ (ih z)
theorem sorted_setX {a : Addr} {l : List Str} {Q : Value → Shared → Prop} (x : SetX P w s.heap a l) (hh : A.handled = none) (h64 : l.length < 64)
    (hQ : ∀ s' p (out : Array Value) (c : Nat) (ys : List Str), (∀ b o, s.heap.get? b = some o → s'.heap.get? b = some o) → s'.gens = s.gens → s'.os = s.os → s.heap.objs.size ≤ p →
      s'.heap.get? p = some (seqObj "list" out c) → StrsAre out.toList ys → ys.Perm l → sortedS ys = true → Q (.ref p) s') :
    wpAny (model P w) A (call (.builtin "sorted") [.ref a]) Q E s := by
  obtain ⟨⟨es, ep, t⟩, e, F, nd, r, ld⟩ := x
  have hsz : es.size = l.length := F.sz
  refine Calls.call_function_entry kind_sorted plain_sorted entry_sorted (args_sorted1 _) ?_
  unfold Builtin.«sorted»
  refine wpAny_bind (m := checkCount "sorted" 1 1 _) (wpAny_pure ?_)
  refine wpAny_bind (collect_set (A := A.in1) (es := es) (ep := ep) (t := t) hh ⟨_, e, rfl, rfl⟩ F.fit (by rw [hsz]; unfold scanBound; omega) r ld fun s1 vs k1 hz g1 o1 pm => ?_)
  have hvl : vs.length = l.length := by rw [pm.length_eq, List.length_map, Array.length_toList]; exact hsz
  have el := F.el
  have hS : StrsAre vs (vs.map strOf) := strsAre_map vs fun v hv => by
    obtain ⟨q, hq, e'⟩ := List.mem_map.mp (pm.mem_iff.mp hv)
    obtain ⟨⟨k, hk, _⟩, _⟩ := el q hq
    subst e'
    generalize q.2 = y at hk
    cases y with
    | str z u => exact ⟨z, u, rfl⟩
    | _ => exact nomatch hk
  have pl : (vs.map strOf).Perm l := by
    refine perm_of l _ nd (fun x hx => ?_) (by rw [List.length_map, hvl]; exact Nat.le_refl _)
    obtain ⟨q, hq, hk⟩ := (F.mem x).mp hx
    have hm : q.2 ∈ vs := pm.mem_iff.mpr (List.mem_map.mpr ⟨q, hq, rfl⟩)
    obtain ⟨⟨k, hk', _⟩, _⟩ := el q hq
    generalize q.2 = y at hk hm
    cases y with
    | str z u =>
      have z2 : x = z := (PySem.strKind P w).inj (.str z u) x z hk (PySem.Froz.is_str z u)
      rw [z2]
      exact StrsAre.mem_ hS hm
    | _ => exact nomatch hk
  refine wpAny_bind (wpAny_newList ?_ (by rw [hvl, sizeLine_eq]; omega))
  have hoL : (s1.heap.push (seqObj "list" vs.toArray 0)).get? s1.heap.objs.size = some (seqObj "list" vs.toArray 0) := Heap.get?_push_size _ rfl
  refine wpAny_bind (wpAny_holding (wpAny_call_entry slot_list_sort ⟨_, hoL, rfl⟩ entry_list_sort (list_sort_treeK strKind_oneLt hoL hS.keysOf (fun v₁ v₂ rest e => keyKind_strs (by rw [← e]; exact hS)) (by rw [hvl]; exact h64) fun st' hp hs => ⟨_, rfl, ?_⟩) (args_list_sort _)))
  obtain ⟨ss', a1, a2, a3⟩ := sorted_out_str hS hp hs
  obtain ⟨c, hc⟩ := sortedHeap_at (vs := vs) (out := (arrOf st').map (·.2)) hoL
  refine wpAny_pure ⟨_, rfl, hQ _ s1.heap.objs.size _ c ss' (fun b u eb => ?_) g1 o1 hz hc a1 (a2.trans pl) a3⟩
  have q := k1 b u eb
  have hlt := Heap.lt_size q
  show (sortedHeap (s1.heap.push (seqObj "list" vs.toArray 0)) s1.heap.objs.size vs _).get? b = some u
  rw [sortedHeap_old (Nat.ne_of_lt hlt) (by rw [size_push']; exact Nat.lt_succ_of_lt hlt)]
  exact Heap.get?_push_of_some _ q
/-! ### ints -/
theorem setI_steps (S : Addr) (ns : List Int) (hb : ns.length + 1 < scanBound) {items : Array Value} (hi : IntsAre items.toList ns) :
    SetStep P w S (fun i h => ∃ n, n ≤ i ∧ SetR w h S (fun j => decide (j ∈ ns.take i)) n) fun i v => items[i]? = some v where
  frame := fun i h h' ⟨n, hn, x⟩ k => ⟨n, hn, SetR.at x k⟩
  step := fun A E i v s Q hv ⟨n, hn, x⟩ q => by
    have hv' : items.toList[i]? = some v := by rw [Array.getElem?_toList]; exact hv
    have key : ∀ {vs : List Value} {ys : List Int}, IntsAre vs ys → ∀ {i : Nat} {v : Value}, vs[i]? = some v → ∃ k u, v = .int k u ∧ ys[i]? = some k := by
      intro vs ys h
      induction h with
      | nil => intro i v e; simp at e
      | cons x t h ih =>
        intro i v e
        cases i with
        | zero => exact ⟨x, t, by simpa using e.symm, rfl⟩
        | succ i => exact ih (by simpa using e)
    obtain ⟨k, u, rfl, hk⟩ := key hi hv'
    have hil : i < ns.length := by
      obtain ⟨z, _⟩ := List.getElem?_eq_some_iff.mp hk
      exact z
    unfold setAdd
    refine wpAny_holding ?_
    refine wpAny_bind ((intKind P w).pyHash (intKind_is P w k u) ?_)
    refine setR_add_hashed (P := P) (s := { s with toks := s.toks + 1 }) x (by omega) fun h' sb x' => ?_
    refine q _ h' _ sb (Nat.le_succ _) ⟨_, ?_, x'.congr fun j => ?_⟩
    · split <;> omega
    · rw [List.take_succ, hk]
      show decide (j ∈ ns.take i ++ [k]) = (decide (j ∈ ns.take i) || decide (j = k))
      rw [Bool.eq_iff_iff]
      simp [List.mem_append]
end
/-! ### the words -/
def SetXO (P : Program) (w : World) (a : Addr) (l : List Str) : HO := .ext fun h => SetX P w h a l
theorem setXO_new {P : Program} {w : World} {H : Hp} {h : Heap} {a : Addr} {l : List Str} (R : SetX P w h a l) : ObjOk P w H h a (SetXO P w a l) := by
  have ⟨D, e, _⟩ := R
  exact ⟨R, ⟨_, e⟩, fun h1 h2 p k => SetX.keep p k⟩
section
variable {X : Cx}
def rSetS (K : PySem.W.Frag) (P : Program) (w : World) : List V → Hp → VK → Prop := fun xs H Q => ∃ (l : Addr) (zs : List Str), xs = [V.ref l] ∧ SqL K H l (zs.map V.str) ∧ zs.length < 1000 ∧
  ∀ a, H a = none → Q (.ref a) (upd H a (SetXO P w a (dd zs)))
theorem cr_setS (hc : X.calm = true) : CallR X (.type "set") (rSetS X.K X.prog X.w) := by
  intro pins s σ H xs us Q I r h
  obtain ⟨l, zs, rfl, hl, hf, q⟩ := h
  rw [Vals.ref1 r]
  obtain ⟨its, rv, pl, hz⟩ := I.list hl
  have hi : StrsAre its zs := rv.strs
  have hn : H s.heap.objs.size = none := I.hok.fresh (Nat.le_refl _)
  refine call_set_list (P := X.prog) (w := X.w) (I.ok.hd hc) pl.isList (setX_steps _ zs (by unfold scanBound; omega) (by simpa using hi)) (fun h e => SetX.fresh e) fun h' tk x k => ?_
  have e : zs.take its.toArray.size = zs := by
    rw [List.size_toArray, PyProof.Rows.StrsAre.length hi, List.take_length]
  simp only [e] at x
  exact ⟨.ref s.heap.objs.size, _, I.laid (t' := tk) k (Nat.le_refl _) (setXO_new x), rfl, q _ hn⟩
def rSetI (K : PySem.W.Frag) (w : World) : List V → Hp → VK → Prop := fun xs H Q => ∃ (l : Addr) (ns : List Int), xs = [V.ref l] ∧ SqL K H l (ns.map V.int) ∧ ns.length < 64 ∧
  ∀ a n, H a = none → n ≤ ns.length → Q (.ref a) (upd H a (SetO w a (fun j => decide (j ∈ ns)) n))
theorem cr_setI (hc : X.calm = true) : CallR X (.type "set") (rSetI X.K X.w) := by
  intro pins s σ H xs us Q I r h
  obtain ⟨l, ns, rfl, hl, hf, q⟩ := h
  rw [Vals.ref1 r]
  obtain ⟨its, rv, pl, hz⟩ := I.list hl
  have hi : IntsAre its ns := rv.ints
  have hn : H s.heap.objs.size = none := I.hok.fresh (Nat.le_refl _)
  refine call_set_list (P := X.prog) (w := X.w) (I.ok.hd hc) pl.isList (setI_steps _ ns (by unfold scanBound; omega) (by simpa using hi)) (fun h e => ⟨0, Nat.le_refl _, ?_⟩) fun h' tk x k => ?_
  · refine ⟨_, #[], 0, _, e, ⟨rfl, rfl, rfl⟩, rfl, (fun e he => by simp at he), (by simp), (fun k => by simp), (by decide), (by rfl), rfl, List.Pairwise.nil, ?_⟩
    show _ ∨ (!X.w.params.followText "set-order") = true
    cases X.w.params.followText "set-order"
    · exact .inr rfl
    · exact .inl rfl
  · have e : ns.take its.toArray.size = ns := by
      rw [List.size_toArray, hi.length, List.take_length]
    obtain ⟨n, h1, h2⟩ := x
    simp only [e] at h2
    have h1' : n ≤ ns.length := by rw [← hi.length]; simpa using h1
    exact ⟨.ref s.heap.objs.size, _, I.laid (t' := tk) k (Nat.le_refl _) (setO_new h2), rfl, q _ n hn h1'⟩
def rSortedX (P : Program) (w : World) : List V → Hp → VK → Prop := fun vs H Q => ∃ (a : Addr) (l : List Str), vs = [V.ref a] ∧ H a = some (SetXO P w a l) ∧ l.length < 64 ∧
  ∀ (ys : List Str) (p : Addr), ys.Perm l → sortedS ys = true → H p = none → Q (.ref p) (upd H p (.lst (ys.map V.str)))
theorem cr_sortedX (hc : X.calm = true) : CallR X (.builtin "sorted") (rSortedX X.prog X.w) := by
  intro pins s σ H vs us Q I r h
  obtain ⟨a, l, rfl, ha, h64, q⟩ := h
  have x : SetX X.prog X.w s.heap a l := (I.hok a _ ha).1
  rw [Vals.ref1 r]
  refine sorted_setX x (I.ok.hd hc) h64 fun s' p out c ys k g o hp hg hout pm so => ?_
  have hlen : (ys.map V.str).length ≤ sizeLine := by rw [List.length_map, pm.length_eq, sizeLine_eq]; omega
  have hn : H p = none := I.hok.fresh hp
  have J : Inv X pins σ (upd H p (.lst (ys.map V.str))) { s with heap := s'.heap, gens := s'.gens, drawn := s'.drawn, toks := s'.toks } :=
    I.call (ch := []) (Un.laid k hp hn) (I.hok.laid k hp ⟨hlen, out.toList, c, vals_of_strs hout, hg⟩) (by rw [g]; exact I.bare) (fun _ z => nomatch z)
  have e : s' = { s with heap := s'.heap, gens := s'.gens, drawn := s'.drawn, toks := s'.toks } := by
    cases s'
    cases s
    cases o
    rfl
  rw [e]
  exact ⟨.ref p, _, J, rfl, q ys p pm so hn⟩
end
end L2
set_option Elab.async false
set_option linter.all false
set_option maxRecDepth 100000
set_option maxHeartbeats 4000000
/-! == of a dict and an empty one; != of dicts whose values are data alike; texts in order. -/
namespace L2
open PySem PySem.Spec PyProof.Rows
section
variable {X : Cx}
def rEqE : R2 := fun x y H Q => ∃ a b ks, x = .ref a ∧ y = .ref b ∧ H a = some (.dK ks) ∧ H b = some (.dK []) ∧ ∀ c, Q (.bl c) H
theorem op_eqE (hu : X.A.units < cLine) : OpR X (compareOp .Eq) rEqE := by
  intro pins s σ H x y v u Q I rx ry h
  obtain ⟨a, b, ks, rfl, rfl, ea, eb, q⟩ := h
  cases (show v = Value.ref a from rx)
  cases (show u = Value.ref b from ry)
  obtain ⟨_, ya, va, ra, da⟩ := (show ObjOk X.prog X.w H s.heap a (.dK ks) from I.hok a _ ea)
  obtain ⟨_, yb, vb, rb, db⟩ := (show ObjOk X.prog X.w H s.heap b (.dK []) from I.hok b _ eb)
  cases rb
  refine PySem.W.rcP_dicts (knd := mixKind X.prog X.w) (r := true) ya yb da db hu (fun e => ?_) _ _ ⟨.bl _, H, I, rfl, q _⟩
  cases va with
  | nil => exact .nil
  | cons p r => cases e
/-- two dicts of the same keys, their values data alike -/
def rNeV (K : PySem.W.Frag) : R2 := fun x y H Q => ∃ a b ks ls, x = .ref a ∧ y = .ref b ∧ H a = some (.dK ks) ∧ H b = some (.dK ls) ∧ ks.length = ls.length ∧
  (∀ p ∈ ks, ∃ u d, valV ls p.1 = some u ∧ Dp K H p.2 d ∧ Dp K H u d ∧ d.canLay0 = true ∧ d.depth ≤ 60) ∧ Q (.bl false) H
theorem hitsD {pins : List (Addr × Obj)} {σ : St} {H : Hp} {s : Shared} (I : Inv X pins σ H s) {A : Around} (hu : A.units + 61 < cLine) {kvs : List (Key × V)} {vb : List (Key × Value)} (rb : KV kvs vb) {ks : List (Key × V)} {va : List (Key × Value)} (ra : KV ks va) :
    (∀ p ∈ ks, ∃ u d, valV kvs p.1 = some u ∧ Dp X.K H p.2 d ∧ Dp X.K H u d ∧ d.canLay0 = true ∧ d.depth ≤ 60) → PySem.W.KeqHits A s vb va true := by
  unfold KV at ra
  induction ra with
  | nil => intro _; exact .nil
  | @cons p q ps qs h t ih =>
    intro hp
    obtain ⟨h1, h2⟩ := h
    obtain ⟨u, d, e, d1, d2, hl, hd⟩ := hp p List.mem_cons_self
    have rr : RelO (some u) (valueAt vb p.1) := by rw [← e]; exact rb.val p.1
    obtain ⟨y, hy, ry⟩ := rr.some_of
    obtain ⟨k1, w1⟩ := q
    cases (show p.1 = k1 from h1)
    obtain ⟨as, r1⟩ := Dp.reads I d p.2 w1 d1 h2
    obtain ⟨bs, r2⟩ := Dp.reads I d u y d2 ry
    have eq : SeqAt.EqAt A s w1 y (PyData.eqv d d) := SeqAt.eqAt_reads d d A s w1 y as bs r1 r2 hl hl (by omega)
    rw [SeqAt.eqv_refl d hl] at eq
    show PySem.W.KeqHits A s vb ((p.1, w1) :: qs) (true && true)
    exact .hit hy eq (ih fun p' hm => hp p' (List.mem_cons_of_mem _ hm))
theorem op_neV (hu : X.A.units + 64 < cLine) : OpR X (compareOp .NotEq) (rNeV X.K) := by
  intro pins s σ H x y v u Q I rx ry h
  obtain ⟨a, b, ks, ls, rfl, rfl, ea, eb, hlen, hp, q⟩ := h
  obtain rfl : v = Value.ref a := rx
  obtain rfl : u = Value.ref b := ry
  obtain ⟨_, ya, va, ra, da⟩ := (show ObjOk X.prog X.w H s.heap a (.dK ks) from I.hok a _ ea)
  obtain ⟨_, yb, vb, rb, db⟩ := (show ObjOk X.prog X.w H s.heap b (.dK ls) from I.hok b _ eb)
  have hl : va.length = vb.length := by rw [← ra.length, ← rb.length]; exact hlen
  refine PySem.W.keq_ne (knd := mixKind X.prog X.w) (r := true) ya yb da db (by omega) (fun _ => hitsD I (by show X.A.units + 1 + 61 < cLine; omega) rb ra hp) ⟨.bl _, H, I, rfl, ?_⟩
  simpa [hl] using q
end
/-! ### texts in order -/
theorem le_of_lt_false {a b : List Nat} (h : ltCps b a = false) : a ≤ b := by
  rw [ltCps_eq, decide_eq_false_iff_not] at h
  exact List.not_lt.mp h
theorem rising_all : ∀ (l : List Str) (p : Str), risingS p l = true → ∀ x ∈ l, p.cps.toList ≤ x.cps.toList
  | [], _, _, x, hx => nomatch hx
  | y :: l, p, h, x, hx => by
    have h' : (!ltCps y.cps.toList p.cps.toList && risingS y l) = true := h
    rw [Bool.and_eq_true, Bool.not_eq_true'] at h'
    have h1 := le_of_lt_false h'.1
    rcases List.mem_cons.mp hx with z | z
    · rw [z]; exact h1
    · exact List.le_trans h1 (rising_all l y h'.2 x z)
theorem rising_tail : ∀ {l : List Str} {p : Str}, risingS p l = true → sortedS l = true
  | [], _, _ => rfl
  | y :: l, p, h => by
    have h' : (!ltCps y.cps.toList p.cps.toList && risingS y l) = true := h
    rw [Bool.and_eq_true] at h'
    exact h'.2
theorem sortedS_uniq : ∀ (ys zs : List Str), ys.Perm zs → sortedS ys = true → sortedS zs = true → ys = zs
  | [], zs, pm, _, _ => (List.nil_perm.mp pm).symm
  | y :: ys, [], pm, _, _ => absurd (List.perm_nil.mp pm) (fun z => nomatch z)
  | y :: ys, z :: zs, pm, h1, h2 => by
    have e : y = z := by
      have a1 : y ∈ z :: zs := pm.mem_iff.mp List.mem_cons_self
      have a2 : z ∈ y :: ys := pm.mem_iff.mpr List.mem_cons_self
      rcases List.mem_cons.mp a1 with c | c
      · exact c
      · rcases List.mem_cons.mp a2 with d | d
        · exact d.symm
        · have l1 := rising_all zs z h2 y c
          have l2 := rising_all ys y h1 z d
          have e := List.le_antisymm l2 l1
          have e2 : y.cps = z.cps := Array.toList_inj.mp e
          cases y
          cases z
          exact congrArg _ e2
    subst e
    rw [sortedS_uniq ys zs (List.Perm.cons_inv pm) (rising_tail h1) (rising_tail h2)]
theorem sortedS_pw : ∀ (l : List Str), sortedS l = true → l.Pairwise fun a b => a.cps.toList ≤ b.cps.toList
  | [], _ => List.Pairwise.nil
  | x :: l, h => List.pairwise_cons.mpr ⟨rising_all l x h, sortedS_pw l (rising_tail h)⟩
theorem sortedS_sub {ks ys : List Str} (h : sortedS ys = true) (sl : ks.Sublist ys) : sortedS ks = true := by
  refine sortedS_of_pairwise _ (((sortedS_pw ys h).sublist sl).imp fun {a b} hab => ?_)
  rw [ltCps_eq, decide_eq_false_iff_not]
  exact List.not_lt.mpr hab
theorem valV_out {k : List (Key × V)} {c : Key} (h : ∀ q ∈ k, q.1 ≠ c) : valV k c = none := by
  unfold valV
  have e : k.find? (fun kv => decide (kv.1 = c)) = none := List.find?_eq_none.mpr fun q hq => by simpa using h q hq
  rw [e]
  rfl
end L2
set_option Elab.async false
set_option linter.all false
set_option maxRecDepth 100000
set_option maxHeartbeats 4000000
/-! for i, x in enumerate(a tuple). -/
namespace L2
open PySem PySem.Spec PyProof.Rows PySem.W
set_option maxHeartbeats 1000000 in
theorem enum_new1 {v : Value} {o : Obj} {H : Heap → Prop} (B : Begins v o H) :
    Meets (Builtin.«enumerate.__new__» ⟨[.type "enumerate", v], []⟩) (fun _ R s => H s.heap ∧
      R (.ok (.ret (.ref (s.heap.push o).objs.size))) { s with heap := (s.heap.push o).push { cls := .type "enumerate", data := .fields #[.none, .bool false, .ref s.heap.objs.size, rawInt 0, .none, .none] } }) :=
  .of_wp fun prog w A R s h => by
    obtain ⟨hp, g, d, tk, os⟩ := s; obtain ⟨h1, h⟩ := h
    have hsub := sub_enumerate
    have q1 : ∀ {A' : Around} {E : Value → Shared → Prop} {Q : Value → Shared → Prop}, Q (.ref hp.objs.size) ⟨hp.push o, g, d, tk, os⟩ → wpAny (model prog w) A' (pyIter v) Q E ⟨hp, g, d, tk, os⟩ :=
      fun q => B.iter prog w _ _ ⟨hp, g, d, tk, os⟩ _ h1 q
    wp_walk using q1
    refine wpAny_stack_any fun st => wpAny_pure ?_
    split
    · rename_i c _ _ _ _ _
      cases (c == Value.type "enumerate")
      · wp_walk using q1
        exact ⟨_, rfl, h⟩
      · wp_walk using q1
        exact ⟨_, rfl, h⟩
    · wp_walk using q1
      exact ⟨_, rfl, h⟩
section
variable {prog : Program} {w : World} {A : Around} {E : Value → Shared → Prop} {s : Shared}
theorem enum_begins1 {v : Value} {o : Obj} {H : Heap → Prop} {Q : Value → Shared → Prop} (B : Begins v o H) (h1 : H s.heap)
    (h : ∀ h', IsEnum h' (s.heap.objs.size + 1) s.heap.objs.size 0 .none → h'.get? s.heap.objs.size = some o → h'.objs.size = s.heap.objs.size + 2 →
      (∀ b o, s.heap.get? b = some o → h'.get? b = some o) → Q (.ref (s.heap.objs.size + 1)) { s with heap := h' }) :
    wpAny (model prog w) A (call (.type "enumerate") [v]) Q E s := by
  refine callType_new F.called_enumerate (by decide) (F.typeCall_enumerate_1 _) (F.newCall_enumerate_1 _) (fun obj => F.args_object_init_2 obj _) F.entry_enumerate_new (enum_new1 B) ⟨h1, ?_⟩
  have hz : (s.heap.push o).objs.size = s.heap.objs.size + 1 := Heap.size_push ..
  show _ ∧ _
  rw [hz]
  have he : IsEnum ((s.heap.push o).push { cls := .type "enumerate", data := .fields #[.none, .bool false, .ref s.heap.objs.size, rawInt 0, .none, .none] }) (s.heap.objs.size + 1) s.heap.objs.size 0 .none := by
    have := Heap.get?_push_size (s.heap.push o) (o := { cls := .type "enumerate", data := .fields #[.none, .bool false, .ref s.heap.objs.size, rawInt 0, .none, .none] }) rfl
    rw [hz] at this; exact this
  exact ⟨⟨_, he, rfl⟩, h _ he (Heap.get?_push_of_some _ (Heap.get?_push_size _ B.free)) (by rw [Heap.size_push, hz]) fun b o x => Heap.get?_push_of_some _ (Heap.get?_push_of_some _ x)⟩
end
def IteT (K : PySem.W.Frag) (a : Addr) : It :=
  ⟨fun i H => ∃ (xs : List V) (x : V), SqT K H a xs ∧ xs[i]? = some x, fun i H v H' => ∃ T x, v = .ref T ∧ H T = none ∧ H' = upd H T (.tup [.int (i : Nat), x]) ∧ ∀ xs, SqT K H a xs → xs[i]? = some x, fun i H => ∃ xs : List V, SqT K H a xs ∧ xs.length ≤ i⟩
theorem turn_enumT {P : Program} {w : World} {K : PySem.W.Frag} {elts : List Expr} {kk : Nat} {tpos : Pos} (a e it : Addr) :
    Turn P w K (.Tuple elts kk tpos) (IteT K a) [e, it] e (fun i h => (∃ old, IsEnum h e it ((i : Nat) : Int) old) ∧ h.IsTupleIter it a i ∧ e ≠ it ∧ a ≠ it ∧ a ≠ e) where
  mem := by simp
  obj := fun i h st b hb => by
    obtain ⟨⟨old, he⟩, ⟨o, ho, hc, hd⟩, _⟩ := st
    have e' : b = e ∨ b = it := by simpa using hb
    rcases e' with z | z
    · rw [z]; exact ⟨_, he, fun v q => nomatch q⟩
    · rw [z]; exact ⟨o, ho, fun v q => by rw [hd] at q; cases q⟩
  keep := fun i h h' st k => let ⟨⟨old, he⟩, hi, hne⟩ := st; ⟨⟨old, k e (by simp) _ he⟩, hi.at fun o q => k it (by simp) o q, hne⟩
  item := by
    intro X hP hw hK hc i pins s σ H E I hf st hg
    subst hP hw hK
    obtain ⟨⟨old, he⟩, hit, hne, hai, hae⟩ := st
    obtain ⟨xs, x, hq, hx⟩ := hg
    obtain ⟨its, rv, p, hz⟩ := I.tuple hq
    obtain ⟨u, hu, ru⟩ := rv.get hx
    have hlt : i < its.length := by
      obtain ⟨z, _⟩ := List.getElem?_eq_some_iff.mp hu
      exact z
    have hel : e < s.heap.objs.size := Heap.lt_size he
    have hil : it < s.heap.objs.size := by obtain ⟨_, q, _⟩ := hit; exact Heap.lt_size q
    have D := Draws.tuple (prog := X.prog) (w := X.w) (A := X.A.in1) (show X.A.in1.handled = none from I.ok.hd hc) it a hai its.toArray
    refine wpAny_pyNext_enum_itemD D he ⟨hit, p⟩ (by simpa using hlt) hne (by simp [hne, hae.symm]) fun y h' tk hy ho st' hT hsz hk => ?_
    have hyu : y = u := by
      have h1 : its[i]? = some y := by simpa using hy
      rw [hu] at h1
      exact (Option.some.inj h1).symm
    subst hyu
    refine ⟨_, rfl, wpAny_letOwnedTupleGo_enum (s := { s with heap := h', toks := tk + 1 }) ho fun h'' he' sb => ?_⟩
    have hT2 : h''.get? s.heap.objs.size = some { cls := .type "tuple", data := .seq #[.int i tk, y] } := (sb.2 _ (Nat.ne_of_gt hel)).trans hT
    have new : ObjOk X.prog X.w (upd H s.heap.objs.size (.tup [.int (i : Nat), x])) h'' s.heap.objs.size (.tup [.int (i : Nat), x]) :=
      ⟨by show 2 ≤ sizeLine; decide, [.int i tk, y], .cons ⟨_, rfl⟩ (.cons ru .nil), ⟨_, hT2, rfl, _, rfl⟩⟩
    have I1 : Inv X pins σ (upd H s.heap.objs.size (.tup [.int (i : Nat), x])) { s with heap := h'', toks := tk + 1 } :=
      I.turnedNew (ch := [e, it]) (fun b ob hb q => (sb.2 b (fun z => hb (by simp [z]))).trans (hk b ob (fun z => hb (by simp [z])) (fun z => hb (by simp [z])) q)) hf (Nat.le_refl _) new
    refine ⟨.ref s.heap.objs.size, _, I1, rfl, ⟨_, x, rfl, I.hok.fresh (Nat.le_refl _), rfl, fun ys hy => by rw [I.tuple_inj hy hq]; exact hx⟩, ⟨⟨y, ?_⟩, st'.1.at fun o q => (sb.2 it (Ne.symm hne)).trans q, hne, hai, hae⟩, fun b hb => ?_⟩
    · have e1 : ((i + 1 : Nat) : Int) = (i : Int) + 1 := by omega
      rw [e1]; exact he'
    · have hb' : b < s.heap.objs.size := by
        have e' : b = e ∨ b = it := by simpa using hb
        rcases e' with z | z
        · rw [z]; exact hel
        · rw [z]; exact hil
      rw [upd_ne (Nat.ne_of_lt hb')]
      exact (hf b hb).1
  done := by
    intro X hP hw hK hc i pins s σ H E I hf st hg
    subst hP hw hK
    obtain ⟨⟨old, he⟩, hit, hne, hai, hae⟩ := st
    obtain ⟨xs, hq, hx⟩ := hg
    obtain ⟨its, rv, p, hz⟩ := I.tuple hq
    obtain ⟨f0, f1, f2, f3, f4, f5⟩ := hf it (by simp)
    have hl := rv.length
    have hh : X.A.in1.handled = none := I.ok.hd hc
    have D : Draws X.prog X.w X.A.in1 it [it, a] i (fun _ _ => False) (fun j h => j = i ∧ h.IsTupleIter it a j ∧ h.IsTuple a its.toArray) :=
      { live := fun _ _ st => let ⟨o, ho, _⟩ := st.2.1; ⟨o, ho⟩
        frame := fun _ _ _ st hk => ⟨st.1, st.2.1.at fun o e => hk it (by simp) o e, st.2.2.at fun o e => hk a (by simp) o e⟩
        item := fun j s Q E hj st hQ => absurd hj (by rw [st.1]; exact Nat.lt_irrefl _)
        done := fun s Q E st hE => wpAny_nextOf_tuple_end hh st.2.1 st.2.2 (by simp; omega) hE }
    exact wpAny_pyNext_enum_endD D he ⟨rfl, hit, p⟩ fun h' eb => ⟨rfl, I.turned (t' := s.toks) (fun b o hb q => eb b o hb q) f0 f1 f3 f4 f5⟩
  self := fun A i s Q E st h => let ⟨⟨_, he⟩, _⟩ := st; wpAny_pyIter_enum he h
def iEnumT (K : PySem.W.Frag) (ta : TA) : TI := fun σ H R => ta σ H fun vs H1 => ∃ a xs, vs = [.ref a] ∧ SqT K H1 a xs ∧ R (IteT K a) H1
theorem pi_enumT {X : Cx} {e : Expr} {ta : TA} {p pos tpos : Pos} {elts : List Expr} {kk : Nat} (hg : Gl X "enumerate") (hm : X.mg "enumerate" = none) (ha : PA X [e] ta) (hs : starEach [e] X.env = [(false, eval e X.env)] := by rfl) :
    PI X (.Tuple elts kk tpos) (.Call (.Name "enumerate" p) [e] [] pos) (iEnumT X.K ta) := by
  refine ⟨fun pins s σ H R I h => ?_⟩
  refine Call_ (ld_blt I hg hm boot_enumerate (PyProof.Rows.callWith_type1 (thn (ha.run pos pins s σ H _ I h) fun us s1 ⟨vs, H1, I1, r1, q1⟩ => ?_) hs rfl))
  obtain ⟨a, xs, ex, hq, q⟩ := q1
  subst ex
  cases r1 with
  | cons r rr =>
    cases rr
    cases r
    obtain ⟨its, rv, p', hz⟩ := I1.tuple hq
    have hal : a < s1.heap.objs.size := by obtain ⟨_, z, _⟩ := p'; exact Heap.lt_size z
    refine enum_begins1 (begins_tuple a its.toArray) p' fun h' he hit hsz hk => wpAny_pyIter_enum he ?_
    have I2 : Inv X pins σ H1 { s1 with heap := h' } := I1.kept (t' := s1.toks) hk
    have hit' : h'.IsTupleIter s1.heap.objs.size a 0 := ⟨_, hit, rfl, rfl⟩
    refine ⟨s1.heap.objs.size + 1, [s1.heap.objs.size + 1, s1.heap.objs.size], _, _, H1, rfl, I2, turn_enumT a (s1.heap.objs.size + 1) s1.heap.objs.size, ⟨⟨.none, he⟩, hit', Nat.succ_ne_self _, Nat.ne_of_lt hal, Nat.ne_of_lt (Nat.lt_succ_of_lt hal)⟩, fun b hb => ?_, q⟩
    have e' : b = s1.heap.objs.size + 1 ∨ b = s1.heap.objs.size := by simpa using hb
    have hle : s1.heap.objs.size ≤ b := by
      rcases e' with z | z
      · rw [z]; exact Nat.le_add_right _ _
      · rw [z]; exact Nat.le_refl _
    exact I1.fpOk hle (I1.hok.fresh hle)
/-- the i-th of xs with its number, in a new pair -/
theorem walk_enumT {K : PySem.W.Frag} {a : Addr} {xs : List V} : Walk (IteT K a) xs.length (fun H => SqT K H a xs) (fun i H v H' => ∃ T x, v = .ref T ∧ H T = none ∧ H' = upd H T (.tup [.int (i : Nat), x]) ∧ xs[i]? = some x) where
  goes := fun i H hi h => ⟨xs, xs[i], h, List.getElem?_eq_getElem hi⟩
  stops := fun H h => ⟨xs, h, Nat.le_refl _⟩
  yields := fun i H v H' hi h ⟨T, x, e, hT, eH, hx⟩ => ⟨T, x, e, hT, eH, hx xs h⟩
end L2
set_option Elab.async false
set_option linter.all false
set_option maxRecDepth 100000
set_option maxHeartbeats 4000000
namespace L2
open PySem PySem.Spec PyProof.Rows
/-! ### data with dicts in it -/
mutual
inductive Dq (K : PySem.W.Frag) (H : Hp) : V → PyData → Prop
  | non : Dq K H .non .none
  | bl (b : Bool) : Dq K H (.bl b) (.bool b)
  | int (i : Int) : Dq K H (.int i) (.int i)
  | str (x : Str) : Dq K H (.str x) (.str x)
  | lst {a : Addr} {xs : List V} {ds : List PyData} : SqL K H a xs → DqAll K H xs ds → Dq K H (.ref a) (.list ds)
  | tup {a : Addr} {xs : List V} {ds : List PyData} : SqT K H a xs → DqAll K H xs ds → Dq K H (.ref a) (.tuple ds)
  | dct {a : Addr} {kvs : List (Key × V)} {ps : List (PyData × PyData)} : H a = some (.dK kvs) → DqAll K H (kvs.map fun q => kV q.1) (ps.map (·.1)) → DqAll K H (kvs.map (·.2)) (ps.map (·.2)) → Dq K H (.ref a) (.dict ps)
inductive DqAll (K : PySem.W.Frag) (H : Hp) : List V → List PyData → Prop
  | nil : DqAll K H [] []
  | cons {v : V} {vs : List V} {d : PyData} {ds : List PyData} : Dq K H v d → DqAll K H vs ds → DqAll K H (v :: vs) (d :: ds)
end
section
variable {K : PySem.W.Frag}
mutual
theorem Dp.q {H : Hp} : ∀ {v : V} {d : PyData}, Dp K H v d → Dq K H v d
  | _, _, .non => .non
  | _, _, .bl b => .bl b
  | _, _, .int i => .int i
  | _, _, .str x => .str x
  | _, _, .lst h a => .lst h (DpAll.q a)
  | _, _, .tup h a => .tup h (DpAll.q a)
theorem DpAll.q {H : Hp} : ∀ {vs : List V} {ds : List PyData}, DpAll K H vs ds → DqAll K H vs ds
  | _, _, .nil => .nil
  | _, _, .cons h t => .cons (Dp.q h) (DpAll.q t)
end
mutual
theorem Dq.mono {H H' : Hp} (e : Same H H') : ∀ {v : V} {d : PyData}, Dq K H v d → Dq K H' v d
  | _, _, .non => .non
  | _, _, .bl b => .bl b
  | _, _, .int i => .int i
  | _, _, .str x => .str x
  | _, _, .lst h a => .lst (e.seq h) (DqAll.mono e a)
  | _, _, .tup h a => .tup (sqT_mono e h) (DqAll.mono e a)
  | _, _, .dct h a b => .dct (e _ _ h) (DqAll.mono e a) (DqAll.mono e b)
theorem DqAll.mono {H H' : Hp} (e : Same H H') : ∀ {vs : List V} {ds : List PyData}, DqAll K H vs ds → DqAll K H' vs ds
  | _, _, .nil => .nil
  | _, _, .cons h t => .cons (Dq.mono e h) (DqAll.mono e t)
end
theorem DqAll.len {H : Hp} : ∀ {vs : List V} {ds : List PyData}, DqAll K H vs ds → vs.length = ds.length
  | _, _, .nil => rfl
  | _, _, .cons _ t => congrArg (· + 1) (DqAll.len t)
theorem DqAll.app {H : Hp} : ∀ {vs ws : List V} {ds es : List PyData}, DqAll K H vs ds → DqAll K H ws es → DqAll K H (vs ++ ws) (ds ++ es)
  | _, _, _, _, .nil, t => t
  | _, _, _, _, .cons h s, t => .cons h (DqAll.app s t)
theorem DqAll.at {H : Hp} : ∀ {vs : List V} {ds : List PyData} {i : Nat} {v : V}, DqAll K H vs ds → vs[i]? = some v → ∃ d, ds[i]? = some d ∧ Dq K H v d
  | _, _, i, v, .nil, e => by simp at e
  | _, _, 0, v, .cons h t, e => by
    simp at e
    exact ⟨_, rfl, e ▸ h⟩
  | _, _, i + 1, v, .cons h t, e => by
    obtain ⟨d, h1, h2⟩ := DqAll.at (i := i) t (by simpa using e)
    exact ⟨d, by simpa using h1, h2⟩
abbrev Qh (K : PySem.W.Frag) (p : Addr) (H : Hp) (v : V) (d : PyData) : Prop := Dq K (hid p H) v d
abbrev QhAll (K : PySem.W.Frag) (p : Addr) (H : Hp) (vs : List V) (ds : List PyData) : Prop := DqAll K (hid p H) vs ds
theorem Dq.un {p : Addr} {H : Hp} {v : V} {d : PyData} (h : Qh K p H v d) : Dq K H v d := Dq.mono hid_in h
theorem Dq.but {p : Addr} {H H' : Hp} {v : V} {d : PyData} (e : But p H H') (h : Qh K p H v d) : Qh K p H' v d := Dq.mono (hid_but e) h
theorem DqAll.but {p : Addr} {H H' : Hp} {vs : List V} {ds : List PyData} (e : But p H H') (h : QhAll K p H vs ds) : QhAll K p H' vs ds := DqAll.mono (hid_but e) h
theorem Dq.newT {p q : Addr} {H : Hp} {xs : List V} {ds : List PyData} (hq : H q = none) (n : q ≠ p) (h : QhAll K p H xs ds) : Qh K p (upd H q (.tup xs)) (.ref q) (.tuple ds) :=
  .tup (.inl (.inl (by rw [hid_ne n, upd_same]))) (DqAll.but (But.new hq) h)
theorem Dq.newL {p q : Addr} {H : Hp} {xs : List V} {ds : List PyData} (hq : H q = none) (n : q ≠ p) (h : QhAll K p H xs ds) : Qh K p (upd H q (.lst xs)) (.ref q) (.list ds) :=
  .lst (.inl (.inl (by rw [hid_ne n, upd_same]))) (DqAll.but (But.new hq) h)
theorem Dq.new0 {p q : Addr} {H : Hp} (hq : H q = none) (n : q ≠ p) : Qh K p (upd H q (.dK [])) (.ref q) (.dict []) :=
  .dct (kvs := []) (by rw [hid_ne n, upd_same]) .nil .nil
/-! ### isinstance -/
theorem Dq.ty {H : Hp} {v : V} {d : PyData} (h : Dq K H v d) : TyX K H v (.type (tyN d)) := by
  cases h with
  | non => exact .base .non
  | bl b => exact .base (.bl b)
  | int i => exact .base (.int i)
  | str x => exact .base (.str x)
  | lst hs _ =>
    rcases hs with (h | ⟨o, h⟩) | ⟨o, its, n, h, hc, _⟩
    · exact .base (.lst h)
    · exact .base (.frz h)
    · exact .kList h hc
  | tup hs _ =>
    rcases hs with (h | ⟨o, h⟩) | ⟨o, its, n, h, hc, _⟩
    · exact .base (.tup h)
    · exact .fTuple h
    · exact .kTuple h hc
  | dct h _ _ => exact .base (.dK h)
def isD : PyData → Bool | .dict _ => true | _ => false
def isOfQ : String → PyData → Bool
  | "str", d => isS d
  | "tuple", d => isT d
  | "list", d => isL d
  | "bool", d => isB d
  | "int", d => isI d
  | "dict", d => isD d
  | _, _ => false
theorem kitNq : (["NoneType", "bool", "int", "str", "list", "tuple", "dict"].all fun a => ["str", "tuple", "list", "bool", "int", "dict"].all fun T => kitB a T == some (tabN a T)) = true := by decide +kernel
theorem kit_allq {a T : String} (ha : a ∈ ["NoneType", "bool", "int", "str", "list", "tuple", "dict"]) (hT : T ∈ ["str", "tuple", "list", "bool", "int", "dict"]) : kitB a T = some (tabN a T) := by
  have h := List.all_eq_true.mp (List.all_eq_true.mp kitNq a ha) T hT
  exact eq_of_beq h
theorem isOfQ_tab {T : String} (hT : T ∈ ["str", "tuple", "list", "bool", "int", "dict"]) (d : PyData) : isOfQ T d = tabN (tyN d) T := by
  simp only [List.mem_cons, List.not_mem_nil, or_false] at hT
  rcases hT with rfl | rfl | rfl | rfl | rfl | rfl <;> cases d <;> first | rfl | decide
theorem isOfQ_kit {d : PyData} {T : String} (hT : T ∈ ["str", "tuple", "list", "bool", "int", "dict"]) : kitB (tyN d) T = some (isOfQ T d) := by
  rw [isOfQ_tab hT]
  refine kit_allq ?_ hT
  cases d <;> simp [tyN]
end
def rIsQ (K : PySem.W.Frag) : List V → Hp → VK → Prop := fun xs H Q => ∃ (v : V) (d : PyData) (T : String), xs = [v, .ty T] ∧ Dq K H v d ∧ T ∈ ["str", "tuple", "list", "bool", "int", "dict"] ∧ Q (.bl (isOfQ T d)) H
section
variable {X : Cx}
theorem call_isQ : CallR X (.builtin "isinstance") (rIsQ X.K) := by
  intro pins s σ H xs us Q I r h
  obtain ⟨v, d, T, rfl, hd, hT, q⟩ := h
  exact call_isi pins s σ H _ us Q I r ⟨v, .ty T, .type (tyN d), .type T, isOfQ T d, rfl, .ty T, hd.ty, kit_ty (isOfQ_kit hT), q⟩
end
/-! ### the heap's own reading of it; no list beside a dict -/
mutual
def nl : PyData → Bool
  | .list _ => false
  | .tuple xs => nls xs
  | .dict kvs => nlk kvs
  | _ => true
def nls : List PyData → Bool
  | [] => true
  | x :: xs => nl x && nls xs
def nlk : List (PyData × PyData) → Bool
  | [] => true
  | (k, v) :: r => nl k && nl v && nlk r
end
theorem nlk_of : ∀ {ps : List (PyData × PyData)}, nlk ps = true → nls (ps.map (·.1)) = true ∧ nls (ps.map (·.2)) = true
  | [], _ => ⟨rfl, rfl⟩
  | (k, v) :: r, h => by
    have h' : (nl k && nl v && nlk r) = true := by simpa [nlk] using h
    simp only [Bool.and_eq_true] at h'
    have ih := nlk_of h'.2
    simp only [List.map_cons, nls, Bool.and_eq_true]
    exact ⟨⟨h'.1.1, ih.1⟩, ⟨h'.1.2, ih.2⟩⟩
section
variable {P : Program} {w : World}
theorem kv_keys : ∀ {kvs : List (Key × V)} {vs : List (Key × Value)} {es : List DictEntry}, KV kvs vs → Pairs (mixKind P w) es vs → Vals (kvs.map fun q => kV q.1) (es.map (·.key)) ∧ Vals (kvs.map (·.2)) (es.map (·.val))
  | _, _, _, .nil, .nil => ⟨.nil, .nil⟩
  | _, _, _, .cons (a := q) (b := z) ⟨h1, h2⟩ r, .cons (e := e) k1 k2 k3 => by
    have ih := kv_keys r k3
    refine ⟨.cons ?_ ih.1, .cons ?_ ih.2⟩
    · have k1' : keyIs z.1 e.key = true := k1
      rw [← h1] at k1'
      rcases keyIs_shape k1' with ⟨i, t, e1, e2⟩ | ⟨x, t, e1, e2⟩
      · show RelV (kV q.1) e.key
        rw [e1, e2]
        exact ⟨t, rfl⟩
      · show RelV (kV q.1) e.key
        rw [e1, e2]
        exact ⟨t, rfl⟩
    · show RelV q.2 e.val
      rw [k2]
      exact h2
end
section
variable {X : Cx} {pins : List (Addr × Obj)} {σ : St} {H : Hp} {s : Shared}
mutual
theorem Dq.reads (I : Inv X pins σ H s) : ∀ {v : V} {d : PyData} {u : Value}, Dq X.K H v d → RelV v u → ∃ as, Reads s.heap u d as ∧ (nl d = true → sysModules ∉ as)
  | _, _, _, .non, r => by
    cases r
    exact ⟨_, Reads.none, fun _ h => nomatch h⟩
  | _, _, _, .bl b, r => by
    cases r
    exact ⟨_, Reads.bool b, fun _ h => nomatch h⟩
  | _, _, _, .int i, r => by
    obtain ⟨t, rfl⟩ := r
    exact ⟨_, Reads.int i t, fun _ h => nomatch h⟩
  | _, _, _, .str x, r => by
    obtain ⟨t, rfl⟩ := r
    exact ⟨_, Reads.str x t, fun _ h => nomatch h⟩
  | _, _, _, .lst hs ha, r => by
    cases r
    obtain ⟨its, rv, ⟨o, n, ho, hc, _, hd⟩, _⟩ := I.list hs
    obtain ⟨as, hr, _⟩ := DqAll.reads I ha rv
    exact ⟨_, Reads.list ho hc hd hr, fun h => by simp [nl] at h⟩
  | _, _, _, .tup hs ha, r => by
    cases r
    obtain ⟨its, rv, ⟨o, ho, hc, n, hd⟩, _⟩ := I.tuple hs
    obtain ⟨as, hr, hn⟩ := DqAll.reads I ha rv
    exact ⟨_, Reads.tuple ho hc hd hr, fun h => hn (by simpa [nl] using h)⟩
  | _, _, _, .dct (a := a) (ps := ps) hs hk hv, r => by
    cases r
    obtain ⟨_, hlow, vs, kv, o, es, ep, ho, ⟨hc, _, _⟩, hd, _, hp, _⟩ := I.hok _ _ hs
    obtain ⟨v1, v2⟩ := kv_keys kv hp
    obtain ⟨as, r1, n1⟩ := DqAll.reads I hk v1
    obtain ⟨bs, r2, n2⟩ := DqAll.reads I hv v2
    refine ⟨_, Reads.dict ho hc hd r1 r2, fun h => ?_⟩
    have h' := nlk_of (ps := ps) (by simpa [nl] using h)
    have hl := beq_eq_false_iff_ne.mp hlow
    intro hm
    rw [List.cons_append, List.mem_cons, List.mem_append] at hm
    rcases hm with hm | hm | hm
    · exact hl hm.symm
    · exact n1 h'.1 hm
    · exact n2 h'.2 hm
theorem DqAll.reads (I : Inv X pins σ H s) : ∀ {vs : List V} {ds : List PyData} {us : List Value}, DqAll X.K H vs ds → Vals vs us → ∃ as, ReadsAll s.heap us ds as ∧ (nls ds = true → sysModules ∉ as)
  | _, _, _, .nil, r => by
    cases r
    exact ⟨_, ReadsAll.nil, fun _ h => nomatch h⟩
  | _, _, _, .cons h1 h2, r => by
    cases r with
    | cons r1 r2 =>
      obtain ⟨as, q1, n1⟩ := Dq.reads I h1 r1
      obtain ⟨bs, q2, n2⟩ := DqAll.reads I h2 r2
      refine ⟨_, ReadsAll.cons q1 q2, fun h => ?_⟩
      have h' := h
      simp only [nls, Bool.and_eq_true] at h'
      intro hm
      rcases List.mem_append.mp hm with hm | hm
      · exact n1 h'.1 hm
      · exact n2 h'.2 hm
end
/-! ### repr -/
structure shownQ (d : PyData) : Prop where
  sh : d.showable = true
  dep : d.depth ≤ 64
  len : d.shown.length ≤ sizeLine
  nd : d.hasDict = true → nl d = true
def rReprQ (K : PySem.W.Frag) : List V → Hp → VK → Prop := fun xs H Q => ∃ (v : V) (d : PyData), xs = [v] ∧ Dq K H v d ∧ shownQ d ∧ Q (.str d.shown) H
theorem call_reprQ (hg : X.A.guards = some []) (hu : X.A.units + 70 < cLine) : CallR X (.builtin "repr") (rReprQ X.K) := by
  intro pins s σ H xs us Q I r h
  obtain ⟨v, d, rfl, hd, ⟨hs, hdep, hl, hnd⟩, q⟩ := h
  obtain ⟨u, rfl, ru⟩ := vals1 r
  obtain ⟨as, rd, hm⟩ := Dq.reads I hd ru
  have big : ∀ a, u = Value.ref a → wpAny (model X.prog X.w) X.A (call (.builtin "repr") [u]) (EP X pins σ Q) X.xe s := fun a e => by
    subst e
    exact repr_of_reads' rd hs (fun h => hm (hnd h)) hg (by omega) (fun _ _ e => e) (fun h' t tk k => ⟨.str d.shown, H, I.kept k, ⟨_, rfl⟩, q⟩) hl
  cases hd with
  | non =>
    cases ru
    exact PySem.P.repr_of_none ⟨.str _, H, I.tok _, ⟨_, rfl⟩, by simpa only [PyData.shown] using q⟩
  | bl b =>
    cases ru
    exact PySem.P.repr_of_bool ⟨.str _, H, I.tok _, ⟨_, rfl⟩, by simpa only [PyData.shown] using q⟩
  | int i =>
    obtain ⟨t, rfl⟩ := ru
    exact PySem.P.repr_of_int (by simpa [PyData.showable] using hs) ⟨.str _, H, I.tok _, ⟨_, rfl⟩, by simpa only [PyData.shown] using q⟩
  | str x =>
    obtain ⟨t, rfl⟩ := ru
    exact PySem.P.repr_of_str ⟨.str _, H, I.tok _, ⟨_, rfl⟩, by simpa only [PyData.shown] using q⟩ (by simpa only [PyData.shown] using hl)
  | lst _ _ => exact big _ ru
  | tup _ _ => exact big _ ru
  | dct _ _ _ => exact big _ ru
end
end L2
set_option Elab.async false
set_option linter.all false
set_option maxRecDepth 100000
set_option maxHeartbeats 4000000
namespace L2
open PySem PySem.Spec PyProof.Rows
/-! ### data with dicts in it whose lists were all made by the run: repr of it, lists beside dicts too -/
mutual
inductive Dr (K : PySem.W.Frag) (H : Hp) : V → PyData → Prop
  | non : Dr K H .non .none
  | bl (b : Bool) : Dr K H (.bl b) (.bool b)
  | int (i : Int) : Dr K H (.int i) (.int i)
  | str (x : Str) : Dr K H (.str x) (.str x)
  | lst {a : Addr} {xs : List V} {ds : List PyData} : a ≠ sysModules → SqL K H a xs → DrAll K H xs ds → Dr K H (.ref a) (.list ds)
  | tup {a : Addr} {xs : List V} {ds : List PyData} : SqT K H a xs → DrAll K H xs ds → Dr K H (.ref a) (.tuple ds)
  | dct {a : Addr} {kvs : List (Key × V)} {ps : List (PyData × PyData)} : H a = some (.dK kvs) → DrAll K H (kvs.map fun q => kV q.1) (ps.map (·.1)) → DrAll K H (kvs.map (·.2)) (ps.map (·.2)) → Dr K H (.ref a) (.dict ps)
inductive DrAll (K : PySem.W.Frag) (H : Hp) : List V → List PyData → Prop
  | nil : DrAll K H [] []
  | cons {v : V} {vs : List V} {d : PyData} {ds : List PyData} : Dr K H v d → DrAll K H vs ds → DrAll K H (v :: vs) (d :: ds)
end
section
variable {K : PySem.W.Frag}
mutual
theorem Dr.q {H : Hp} : ∀ {v : V} {d : PyData}, Dr K H v d → Dq K H v d
  | _, _, .non => .non
  | _, _, .bl b => .bl b
  | _, _, .int i => .int i
  | _, _, .str x => .str x
  | _, _, .lst _ h a => .lst h (DrAll.q a)
  | _, _, .tup h a => .tup h (DrAll.q a)
  | _, _, .dct h a b => .dct h (DrAll.q a) (DrAll.q b)
theorem DrAll.q {H : Hp} : ∀ {vs : List V} {ds : List PyData}, DrAll K H vs ds → DqAll K H vs ds
  | _, _, .nil => .nil
  | _, _, .cons h t => .cons (Dr.q h) (DrAll.q t)
end
mutual
theorem Dr.mono {H H' : Hp} (e : Same H H') : ∀ {v : V} {d : PyData}, Dr K H v d → Dr K H' v d
  | _, _, .non => .non
  | _, _, .bl b => .bl b
  | _, _, .int i => .int i
  | _, _, .str x => .str x
  | _, _, .lst n h a => .lst n (e.seq h) (DrAll.mono e a)
  | _, _, .tup h a => .tup (sqT_mono e h) (DrAll.mono e a)
  | _, _, .dct h a b => .dct (e _ _ h) (DrAll.mono e a) (DrAll.mono e b)
theorem DrAll.mono {H H' : Hp} (e : Same H H') : ∀ {vs : List V} {ds : List PyData}, DrAll K H vs ds → DrAll K H' vs ds
  | _, _, .nil => .nil
  | _, _, .cons h t => .cons (Dr.mono e h) (DrAll.mono e t)
end
/-! data without lists and dicts, as it was read before -/
mutual
def pureD : PyData → Bool
  | .list _ => false
  | .dict _ => false
  | .tuple xs => pureDs xs
  | _ => true
def pureDs : List PyData → Bool
  | [] => true
  | x :: xs => pureD x && pureDs xs
end
mutual
theorem Dp.r {H : Hp} : ∀ {v : V} {d : PyData}, pureD d = true → Dp K H v d → Dr K H v d
  | _, _, _, .non => .non
  | _, _, _, .bl b => .bl b
  | _, _, _, .int i => .int i
  | _, _, _, .str x => .str x
  | _, _, n, .lst h a => by simp [pureD] at n
  | _, _, n, .tup h a => .tup h (DpAll.r (by simpa [pureD] using n) a)
theorem DpAll.r {H : Hp} : ∀ {vs : List V} {ds : List PyData}, pureDs ds = true → DpAll K H vs ds → DrAll K H vs ds
  | _, _, _, .nil => .nil
  | _, _, n, .cons h t => by
    have n' := n
    simp only [pureDs, Bool.and_eq_true] at n'
    exact .cons (Dp.r n'.1 h) (DpAll.r n'.2 t)
end
end
section
variable {X : Cx} {pins : List (Addr × Obj)} {σ : St} {H : Hp} {s : Shared}
mutual
theorem Dr.reads (I : Inv X pins σ H s) : ∀ {v : V} {d : PyData} {u : Value}, Dr X.K H v d → RelV v u → ∃ as, Reads s.heap u d as ∧ sysModules ∉ as
  | _, _, _, .non, r => by
    cases r
    exact ⟨_, Reads.none, fun h => nomatch h⟩
  | _, _, _, .bl b, r => by
    cases r
    exact ⟨_, Reads.bool b, fun h => nomatch h⟩
  | _, _, _, .int i, r => by
    obtain ⟨t, rfl⟩ := r
    exact ⟨_, Reads.int i t, fun h => nomatch h⟩
  | _, _, _, .str x, r => by
    obtain ⟨t, rfl⟩ := r
    exact ⟨_, Reads.str x t, fun h => nomatch h⟩
  | _, _, _, .lst (a := a) ne hs ha, r => by
    cases r
    obtain ⟨its, rv, ⟨o, n, ho, hc, _, hd⟩, _⟩ := I.list hs
    obtain ⟨as, hr, hn⟩ := DrAll.reads I ha rv
    refine ⟨_, Reads.list ho hc hd hr, fun hm => ?_⟩
    rcases List.mem_cons.mp hm with e | hm
    · exact ne e.symm
    · exact hn hm
  | _, _, _, .tup hs ha, r => by
    cases r
    obtain ⟨its, rv, ⟨o, ho, hc, n, hd⟩, _⟩ := I.tuple hs
    obtain ⟨as, hr, hn⟩ := DrAll.reads I ha rv
    exact ⟨_, Reads.tuple ho hc hd hr, hn⟩
  | _, _, _, .dct (a := a) (ps := ps) hs hk hv, r => by
    cases r
    obtain ⟨_, hlow, vs, kv, o, es, ep, ho, ⟨hc, _, _⟩, hd, _, hp, _⟩ := I.hok _ _ hs
    obtain ⟨v1, v2⟩ := kv_keys kv hp
    obtain ⟨as, r1, n1⟩ := DrAll.reads I hk v1
    obtain ⟨bs, r2, n2⟩ := DrAll.reads I hv v2
    refine ⟨_, Reads.dict ho hc hd r1 r2, fun hm => ?_⟩
    have hl := beq_eq_false_iff_ne.mp hlow
    rw [List.cons_append, List.mem_cons, List.mem_append] at hm
    rcases hm with hm | hm | hm
    · exact hl hm.symm
    · exact n1 hm
    · exact n2 hm
theorem DrAll.reads (I : Inv X pins σ H s) : ∀ {vs : List V} {ds : List PyData} {us : List Value}, DrAll X.K H vs ds → Vals vs us → ∃ as, ReadsAll s.heap us ds as ∧ sysModules ∉ as
  | _, _, _, .nil, r => by
    cases r
    exact ⟨_, ReadsAll.nil, fun h => nomatch h⟩
  | _, _, _, .cons h1 h2, r => by
    cases r with
    | cons r1 r2 =>
      obtain ⟨as, q1, n1⟩ := Dr.reads I h1 r1
      obtain ⟨bs, q2, n2⟩ := DrAll.reads I h2 r2
      refine ⟨_, ReadsAll.cons q1 q2, fun hm => ?_⟩
      rcases List.mem_append.mp hm with hm | hm
      · exact n1 hm
      · exact n2 hm
end
/-- a list written out: new, and not sys.modules -/
def tLstN (t : TA) : TE := fun σ H Q => t σ H fun xs H1 => xs.length ≤ sizeLine ∧ ∀ p, H1 p = none → p ≠ sysModules → Q (.ref p) (upd H1 p (.lst xs))
theorem pe_lstN {es : List Expr} {pos : Pos} {t : TA} (h : PA X es t) : PE X (.List es pos) (tLstN t) := by
  refine ⟨fun pins s σ H Q I hq => ?_⟩
  refine wpAny_List_spliced (thn (h.run pos pins s σ H _ I hq) fun us s1 ⟨xs, H1, I1, r, z, q⟩ => ⟨by rw [← r.length]; exact z, ?_⟩)
  have hf : H1 s1.heap.objs.size = none := I1.hok.fresh (Nat.le_refl _)
  have hb : s1.heap.objs.size ≠ sysModules := fun e => by
    have := I1.big
    rw [e] at this
    exact Nat.lt_irrefl _ this
  refine ⟨.ref s1.heap.objs.size, upd H1 s1.heap.objs.size (.lst xs), I1.laid (t' := s1.toks) (fun b u e => Heap.get?_push_of_some _ e) (Nat.le_refl _) ?_, rfl, q _ hf hb⟩
  exact ⟨z, us, 0, r, Heap.get?_push_size _ rfl⟩
structure shownR (d : PyData) : Prop where
  sh : d.showable = true
  dep : d.depth ≤ 64
  len : d.shown.length ≤ sizeLine
def rReprR (K : PySem.W.Frag) : List V → Hp → VK → Prop := fun xs H Q => ∃ (v : V) (d : PyData), xs = [v] ∧ Dr K H v d ∧ shownR d ∧ Q (.str d.shown) H
theorem call_reprR (hg : X.A.guards = some []) (hu : X.A.units + 70 < cLine) : CallR X (.builtin "repr") (rReprR X.K) := by
  intro pins s σ H xs us Q I r h
  obtain ⟨v, d, rfl, hd, ⟨hs, hdep, hl⟩, q⟩ := h
  obtain ⟨u, rfl, ru⟩ := vals1 r
  obtain ⟨as, rd, hm⟩ := Dr.reads I hd ru
  have big : ∀ a, u = Value.ref a → wpAny (model X.prog X.w) X.A (call (.builtin "repr") [u]) (EP X pins σ Q) X.xe s := fun a e => by
    subst e
    exact repr_of_reads' rd hs (fun _ => hm) hg (by omega) (fun _ _ e => e) (fun h' t tk k => ⟨.str d.shown, H, I.kept k, ⟨_, rfl⟩, q⟩) hl
  cases hd with
  | non =>
    cases ru
    exact PySem.P.repr_of_none ⟨.str _, H, I.tok _, ⟨_, rfl⟩, by simpa only [PyData.shown] using q⟩
  | bl b =>
    cases ru
    exact PySem.P.repr_of_bool ⟨.str _, H, I.tok _, ⟨_, rfl⟩, by simpa only [PyData.shown] using q⟩
  | int i =>
    obtain ⟨t, rfl⟩ := ru
    exact PySem.P.repr_of_int (by simpa [PyData.showable] using hs) ⟨.str _, H, I.tok _, ⟨_, rfl⟩, by simpa only [PyData.shown] using q⟩
  | str x =>
    obtain ⟨t, rfl⟩ := ru
    exact PySem.P.repr_of_str ⟨.str _, H, I.tok _, ⟨_, rfl⟩, by simpa only [PyData.shown] using q⟩ (by simpa only [PyData.shown] using hl)
  | lst _ _ => exact big _ ru
  | tup _ _ => exact big _ ru
  | dct _ _ _ => exact big _ ru
end
end L2
set_option Elab.async false
set_option linter.all false
set_option maxRecDepth 100000
set_option maxHeartbeats 4000000
namespace L2
open PySem PySem.Spec PyProof.Rows
/-! a def whose promise is asked only where no repr is under way -/
structure FnG (P : Program) (w : World) (K : PySem.W.Frag) (mg : Str → Option Value) (base : Heap) (CX : CXT) (k : Nat) (f : Addr) (fd : FuncData) (ps : List Str) (sp : Sp) : Prop where
  run : ∀ (A : Around) (outer : List Env) (s : Shared) (H : Hp) (args : Args) (us : List Value) (vs : List V) (Q : VK) (E : XK), A.guards = some [] → Room k A → Env0 P w K mg base A outer s H →
    BindsTo s fd args (ps.zip us) → Vals vs us → sp vs H Q E → codeAny (model P w) A (.call (.ref f) args) (CR CX outer P w H s Q E) s
section
variable {P : Program} {w : World} {K : PySem.W.Frag} {mg : Str → Option Value} {base : Heap} {CX : CXT} {k : Nat}
theorem fnG_of {f : Addr} {nm ql : Str} {pa : Arguments} {bd : List Stmt} {sc : Scope} {dV kV dc pm cdv ct oc : Value} {an od : Option Addr} {osl : Array (Option Value)} {N ps : List Str} {sp : Sp}
    (lk : K.lookup f = some ⟨oc, od, .func (PySem.W.fnOf nm ql pa bd sc dV kV dc pm an cdv ct), osl⟩) (hcd : PySem.W.codeIn K cdv ql = true) (S : FnScope N ps sc)
    (ln : ∀ vs H Q E, sp vs H Q E → vs.length = ps.length)
    (hb : ∀ (A : Around) (outer : List Env) (s : Shared) (H : Hp) (vs : List V) (Q : VK) (E : XK), (A.deeper (envOfC ql sc s.heap.objs.size f cdv)).guards = some [] → Room k (A.deeper (envOfC ql sc s.heap.objs.size f cdv)) → sp vs H Q E →
      ∃ t, PSs (cxOf CX P w K mg base N ql sc f cdv A outer s H E) bd t ∧ t { nx := fun _ H' => Q .non H', rt := Q } (start N vs) H) :
    FnG P w K mg base CX (k + 1) f (PySem.W.fnOf nm ql pa bd sc dV kV dc pm an cdv ct) ps sp := by
  constructor
  intro A outer s H args us vs Q E hg hr e0 hbd rv hsp
  have hln := ln _ _ _ _ hsp
  have inK : K.In s.heap := e0.mod.kin.keeps (fun b o e => (e0.bs b o e).1)
  have noL : s.heap.NoLimit := e0.mod.nolimit.keeps (fun b o e => (e0.bs b o e).1)
  have hkd : ∀ y ∈ ps.zip us, sc.names.lookup y.1 = some .local ∨ (sc.names.lookup y.1 = some .cell ∧ ((cellsFrom (s.heap.objs.size + 1) sc.names []).lookup y.1).isSome = true) := by
    rintro ⟨n, v⟩ hy
    rcases S.par n (List.of_mem_zip hy).1 with z | z
    · exact Or.inl z
    · exact Or.inr ⟨z, PySem.W.cellsFrom_some _ _ _ (Or.inl z)⟩
  refine codeAny_call_function hr.depth (inK _ _ lk) rfl S.co S.gen rfl
    (PySem.W.codeRec_of inK hcd) (hbd _ _ _ _ ?_)
  refine wpAny_newFunctionEnv_cells S.kind hkd
    (fun env he s1 x => ?_)
  subst he
  refine ⟨noL.keeps x.toInCall.keep, codeAny_func ?_⟩
  obtain ⟨t, ht, hq⟩ := hb A outer s H vs Q E hg (hr.deeper _) hsp
  have I0 := inv_start (CX := CX) (E := E) S hr.hd e0 hln rv x
  refine wpAny_mono (ht.run [] s1 (start N vs) H _ I0 hq)
    (fun fl s' hs => ?_) (fun e s' hs => hs)
  have done : ∀ {σ' : St} {H' : Hp} {v : V} {u : Value}, Inv (cxOf CX P w K mg base N ql sc f cdv A outer s H E) [] σ' H' s' → RelV v u → Q v H' → CE outer P w H s Q u s' := by
    intro σ' H' v u J r q
    exact ⟨v, H', J.os, J.bare, J.base, J.hok, r, q⟩
  cases fl with
  | ret u =>
    obtain ⟨v, σ', H', J, r, q⟩ := hs
    exact done J r q
  | next =>
    obtain ⟨σ', H', J, q⟩ := hs
    exact done (v := .non) (u := .none) J rfl q
  | brk => exact (hs.elim fun _ ⟨_, _, q⟩ => q.elim)
  | cont => exact (hs.elim fun _ ⟨_, _, q⟩ => q.elim)
/-- by its place in the text, as C8's -/
theorem fnG0 {x : Str} {st : Stmt} {f : Addr} {fd : FuncData} {N ps : List Str} {sp : Sp} (D : C8.Def K mg x st f fd) (S : FnScope N ps (C8.fnScope st)) (ln : ∀ vs H Q E, sp vs H Q E → vs.length = ps.length)
    (hb : ∀ (cdv : Value) (A : Around) (outer : List Env) (s : Shared) (H : Hp) (vs : List V) (Q : VK) (E : XK), (A.deeper (envOfC x (C8.fnScope st) s.heap.objs.size f cdv)).guards = some [] → Room k (A.deeper (envOfC x (C8.fnScope st) s.heap.objs.size f cdv)) → sp vs H Q E →
      ∃ t, PSs (cxOf C8.CX0 P w K mg base N x (C8.fnScope st) f cdv A outer s H E).nox (C8.fnBody st) t ∧ t { nx := fun _ H' => Q .non H', rt := Q } (start N vs) H) : FnG P w K mg base C8.CX0 (k + 1) f fd ps sp := by
  obtain ⟨oc, od, dV, kV, doc, pm, an, cdv, ct, osl, rfl, lk, hcd⟩ := D.fn.ex
  refine fnG_of lk hcd S ln (fun A outer s H vs Q E hg hr hsp => ?_)
  obtain ⟨t, h, q⟩ := hb cdv A outer s H vs Q E hg hr hsp
  exact ⟨t, h.nox, q⟩
end
/-- the law's call, from such a promise -/
theorem lawG {P : Program} {w : World} {K : PySem.W.Frag} {mg mb : Str → Option Value} {CX : CXT} {k : Nat} {fa a : Addr} {fd : FuncData} {x : Str} {sp : Sp} {s₁ : Shared} {vs : List Value} {ns : List Int}
    (KX : K.In s₁.heap) (hns : s₁.heap.Ns mainGlobals mg) (hb : s₁.heap.Ns builtinsNs mb) (hbb : ∀ x : Str, x ≠ "__name__" → mb x = bootBuiltins x) (hlim : s₁.heap.NoLimit) (hg : s₁.gens = #[])
    (ha : s₁.heap.get? a = some { cls := .type "list", data := .seq vs.toArray }) (hi : IntsAre vs ns) (hl : ns.length ≤ sizeLine) (hr : Room k callerA)
    (F : ∀ base : Heap, K.In base → base.Ns mainGlobals mg → FnG P w K mg base CX k fa fd [x] sp)
    (hbind : ∀ (s : Shared) (u : Value), BindsTo s fd ⟨[u], []⟩ [(x, u)])
    (hsp : ∀ H : Hp, Only H → SqL K H a (ns.map V.int) → sp [.ref a] H (fun v _ => v = .bl true) fun _ _ _ => False)
    (hCX : ∀ H e s', CX [] H s₁ (fun _ _ _ => False) e s' → False) :
    codeAny (model P w) callerA (.call (.ref fa) ⟨[.ref a], []⟩) (fun r s' => r = .ok (.ret (.bool true)) ∧ OldK s₁.heap s'.heap ∧ s'.os = s₁.os ∧ AllBare s'.gens) s₁ := by
  have vi := vals_ints hi
  have hvl := hi.length
  have main : ∀ H : Hp, Only H → SqL K H a (ns.map V.int) → HOk P w H s₁.heap → (∀ b, H b ≠ none → b = a) → (H a ≠ none → K.lookup a = none) →
      codeAny (model P w) callerA (.call (.ref fa) ⟨[.ref a], []⟩) (fun r s' => r = .ok (.ret (.bool true)) ∧ OldK s₁.heap s'.heap ∧ s'.os = s₁.os ∧ AllBare s'.gens) s₁ := by
    intro H only hS hok onlyA noK
    have free : ∀ {b : Addr} {o : Obj} {es : Array DictEntry} {ep : Nat}, s₁.heap.get? b = some o → o.data = .dict es ep → H b = none := by
      intro b o es ep e d
      cases q : H b with
      | none => rfl
      | some u =>
        have hba : b = a := onlyA b (by rw [q]; simp)
        subst hba
        rw [ha] at e
        cases e
        exact nomatch (show Data.seq vs.toArray _ = Data.dict es ep from d)
    have nsAt : ∀ {b : Addr} {m : Str → Option Value}, s₁.heap.Ns b m → (hidT s₁.heap H).Ns b m := by
      rintro b m ⟨o, es, ep, e, d, r⟩
      exact ⟨o, es, ep, hidT_get e (free e d), d, r⟩
    have inB : K.In (hidT s₁.heap H) := by
      intro b o e
      refine hidT_get (KX b o e) ?_
      cases q : H b with
      | none => rfl
      | some u =>
        have hba : b = a := onlyA b (by rw [q]; simp)
        subst hba
        rw [noK (by rw [q]; simp)] at e
        cases e
    have md : Mod K mg (hidT s₁.heap H) := by
      obtain ⟨mc, h1, h2⟩ := hlim
      exact ⟨inB, nsAt hns, ⟨mb, nsAt hb, hbb⟩, ⟨mc, nsAt h1, h2⟩⟩
    have e0 : Env0 P w K mg (hidT s₁.heap H) callerA [] s₁ H := by
      refine ⟨rfl, md, fun b o e => of_hidT e, Nat.le_of_eq (hidT_size _ _), trivial, ?_, hok, .of_eq hg⟩
      intro b hb
      exact absurd (show b ∈ ([] : List Addr) from hb) (by simp)
    have hrun := (F _ inB (nsAt hns)).run callerA [] s₁ H ⟨[.ref a], []⟩ [.ref a] [.ref a] _ _ rfl hr e0
      (hbind s₁ (.ref a)) (.cons rfl .nil) (hsp H only hS)
    refine codeAny_mono hrun (fun r s' h => ?_)
    cases r with
    | error e => exact (hCX H e s' h).elim
    | ok fl =>
      cases fl with
      | ret u =>
        obtain ⟨v, H', os, bare, un, hok', r', q⟩ := h
        have qv : v = .bl true := q
        subst qv
        have ru : u = Value.bool true := r'
        subst ru
        refine ⟨rfl, OldK.of_keep ?_, os, bare⟩
        intro b o e
        cases q : H b with
        | none => exact un.keep b o e q (fun z => absurd (show b ∈ ([] : List Addr) from z) (by simp)) (by simp)
        | some u =>
          rcases only b with z | ⟨ob, ys, z⟩
          · rw [q] at z
            cases z
          · obtain ⟨e1, _⟩ := hok b _ z
            obtain ⟨e2, _⟩ := hok' b _ (un.frzs b ob _ z)
            rw [e] at e1
            cases e1
            exact e2
      | next => exact False.elim h
      | brk => exact False.elim h
      | cont => exact False.elim h
  cases hk : K.lookup a with
  | some o =>
    have e := KX a o hk
    rw [ha] at e
    cases e
    refine main (fun _ => none) (fun _ => Or.inl rfl) (Or.inr ⟨_, vs.toArray, _, hk, rfl, rfl, rfl, ?_, ?_⟩) ?_ (fun b z => absurd rfl z) (fun z => absurd rfl z)
    · rw [List.size_toArray, hvl]
      exact hl
    · simpa using vi
    · intro b u z
      exact nomatch (show (none : Option HO) = some u from z)
  | none =>
    refine main (fun b => if b = a then some (.frz { cls := .type "list", data := .seq vs.toArray } (.lst (ns.map V.int))) else none) (fun b => ?_) (Or.inl (Or.inr ⟨_, if_pos rfl⟩)) (fun b u z => ?_) (fun b z => ?_) (fun _ => hk)
    · by_cases hba : b = a
      · exact Or.inr ⟨_, _, if_pos hba⟩
      · exact Or.inl (if_neg hba)
    · by_cases hba : b = a
      · have zz := (if_pos hba).symm.trans z
        cases zz
        subst hba
        exact ⟨ha, by rw [List.length_map]; exact hl, vs, _, vi, ha⟩
      · have zz := (if_neg hba).symm.trans z
        cases zz
    · by_cases hba : b = a
      · exact hba
      · exact absurd (if_neg hba) z
/-- the goal that the head leaves, from such a promise of the law's def -/
theorem walkG {l : PySem.W.OpenLaw} {n k : Nat} {q : Program} {loose : List Str} {XP : (Str → Option Value) → Heap → Prop} {YP : World → Heap → Prop} {d : DefRec} {K : Params → PySem.W.Frag} {sp : PySem.W.Frag → Sp} {x : Str}
    (hn : l.most = some n) (hn2 : n ≤ sizeLine) (hdf : d.params.defaults = []) (hr : Room k callerA) (hY : ∀ (w : World) (h : Heap), YP w h → (K w.params).In h)
    (F : ∀ (w : World) (mg : Str → Option Value) (fa : Addr) (h : Heap), (K w.params).In h → h.Ns mainGlobals mg → mg d.name = some (.ref fa) →
      ∃ fd : FuncData, (∀ (s : Shared) (u : Value), BindsTo s fd ⟨[u], []⟩ [(x, u)]) ∧ ∀ base : Heap, (K w.params).In base → base.Ns mainGlobals mg → FnG l.prog w (K w.params) mg base C8.CX0 k fa fd [x] (sp (K w.params)))
    (hsp : ∀ (K : PySem.W.Frag) (H : Hp) (a : Addr) (ns : List Int), ns.length ≤ n → Only H → SqL K H a (ns.map V.int) → sp K [.ref a] H (fun v _ => v = .bl true) fun _ _ _ => False) :
    PySem.W.WalkO q loose XP YP l.row.toRowW d [] (fun f vs => PySem.call f vs) := by
  refine Att.attach_call hn hdf ?_
  intro w s₀ s₁ mg mb fa o pm cd doc a vs ns G Y ho hd hcd hmg hobj hints hlen hg
  have inK := hY w _ Y
  obtain ⟨fd, hb, hF⟩ := F w mg fa _ inK G.T.g hmg
  exact lawG inK G.T.g G.T.b G.T.builtins G.T.nolimit hg hobj hints (Nat.le_trans hlen hn2) hr hF hb (fun H hO hS => hsp _ H a ns hlen hO hS) (fun H e s' z => z)
end L2
set_option Elab.async false
set_option linter.all false
set_option maxRecDepth 100000
set_option maxHeartbeats 4000000
namespace L2
open PySem PySem.Spec PyProof.Rows
/-- a def by its name, its promise asked only where no repr is under way -/
structure CalG (P : Program) (w : World) (K : PySem.W.Frag) (mg : Str → Option Value) (base : Heap) (k : Nat) (x : Str) (sp : Sp) : Prop where
  ex : ∃ (f : Addr) (fd : FuncData) (ps : List Str), (∀ vs H Q E, sp vs H Q E → vs.length = ps.length) ∧ FnG P w K mg base C8.CX0 k f fd ps sp ∧ mg x = some (.ref f) ∧ PySem.W.keepIn K (.ref f) = true ∧ Binds K fd ps []
section
variable {X : Cx} {k j : Nat} {x : Str} {sp : Sp} {p pos : Pos} {e : Expr} {es : List Expr} {t : TA}
theorem pe_cg (c : CalG X.prog X.w X.K X.mg X.base k x sp) (hgd : X.A.guards = some []) (hr : Room j X.A) (hk : k ≤ j) (hg : Gl X x) (ha : PA X (e :: es) t)
    (hdb : (x == ("__debug__" : Str)) = false := by decide) (he : starEach (e :: es) X.env = (false, eval e X.env) :: starEach es X.env := by rfl) (hpl : (backTo pos (starEach es X.env)).any (·.1) = false := by rfl) :
    PE X (.Call (.Name x p) (e :: es) [] pos) (tCall sp [] C8.E0 t) := by
  obtain ⟨f, fd, ps, ln, F, hm, kp, hb⟩ := c.ex
  refine ⟨fun pins s σ H Q I h => ?_⟩
  refine wpAny_Call_Name_kw (ld_glob I hg hm ?_ hdb)
  refine PySem.W.callWith_K (h₀ := X.base) I.ok.mod.kin kp (thn (ha.run pos pins s σ H _ I h) fun us s1 ⟨vs, H1, I1, r, q⟩ => ⟨I1.kIn, ?_⟩) he hpl
  have r2 : Vals (vs ++ []) (us ++ []) := r.append .nil
  have hl : (us ++ []).length = ps.length := by rw [← r2.length]; exact ln _ _ _ _ q
  refine wpAny_call (codeAny_mono (F.run X.A X.stack s1 H1 ⟨us, []⟩ (us ++ []) (vs ++ []) Q C8.E0 hgd (hr.mono hk) I1.env0 (hb s1 us I1.kIn hl) r2 q) fun r s' hq => ?_)
  cases r with
  | error e => exact (C8.pass0 (X := X) (E := C8.E0)) pins σ H1 s1 e s' I1 hq
  | ok fl =>
    cases fl with
    | ret u => exact I1.after hq
    | next => exact False.elim hq
    | brk => exact False.elim hq
    | cont => exact False.elim hq
end
end L2
set_option Elab.async false
set_option linter.all false
set_option maxRecDepth 100000
set_option maxHeartbeats 4000000
/-! *d of a dict in a list written out; d != {}; small data; data of tuples alone. -/
namespace L2
open PySem PySem.Spec PyProof.Rows
section
variable {X : Cx} {pins : List (Addr × Obj)} {σ : L2.St} {H : Hp} {s : Shared}
theorem star_dct (hcalm : X.calm = true) {a : Addr} {kvs : List (Key × V)} {E : Value → Shared → Prop} {Q : List Value → Shared → Prop} (I : Inv X pins σ H s) (h : H a = some (.dK kvs)) (hQ : ∀ us s', Inv X pins σ H s' → Vals (kvs.map fun q => kV q.1) us → Q us s') : PySem.W.StarOf (model X.prog X.w) X.A E (.ref a) Q s := by
  obtain ⟨z, lo, vs, rel, dd⟩ := dk_rd I.hok (.inl h)
  obtain ⟨ep, hat⟩ := dd.dictAt
  have hl : vs.length = kvs.length := rel.length.symm
  have hT : s.TypeIs (.ref a) "dict" := dd.typeIs
  have w : wpAny (model X.prog X.w) X.A (collect (.ref a)) Q E s := by
    refine PySem.W.kdu_collect (A := X.A) (PySem.W.kdl_dict (knd := mixKind X.prog X.w) (kvs := vs) (ep := ep) lo) (I.ok.hd hcalm) hat (by omega) fun h' tk acc hk hacc => ?_
    refine hQ _ _ (I.kept hk) ?_
    have e : (kvs.map fun q => kV q.1) = vs.map fun q => kV q.1 := by
      have e1 := rel.keys
      have e2 : (kvs.map (·.1)).map kV = (vs.map (·.1)).map kV := by rw [e1]
      simpa [List.map_map, Function.comp_def] using e2
    rw [e]
    refine keys_at (by rw [Array.length_toList, hacc.1]) fun j v hv => ?_
    exact hacc.2 j v (by rw [← Array.getElem?_toList]; exact hv)
  unfold PySem.W.StarOf notIterableAtAll
  exact wpAny_bind (wpAny_specialOf hT PySem.F.slot_dict_iter.lookup (wpAny_pure ⟨rfl, w⟩))
/-- *d in a list: the keys of a dict -/
def tStarD (te : TE) (t : TA) : TA := fun σ H Q => te σ H fun x H1 => ∃ p kvs, x = V.ref p ∧ H1 p = some (.dK kvs) ∧ t σ H1 fun ys H2 => Q ((kvs.map fun q => kV q.1) ++ ys) H2
theorem pa_starD (hcalm : X.calm = true) {e : Expr} {es : List Expr} {te : TE} {t : TA} {p : Pos} (he : PE X e te) (hr : PA X es t) (hs : starEach (.Starred e p :: es) X.env = (true, eval e X.env) :: starEach es X.env := by rfl) : PA X (.Starred e p :: es) (tStarD te t) := by
  refine ⟨fun pos pins s σ H Q I h => ?_⟩
  refine PySem.W.items_star (thn (he.run pins s σ H _ I h) fun v s1 ⟨y, H1, I1, ry, a, kvs, ey, hx, q⟩ => ?_) hs
  subst ey
  obtain rfl : v = Value.ref a := ry
  refine star_dct hcalm I1 hx fun us s2 I2 rv => ?_
  exact thn (hr.run pos pins s2 σ H1 _ I2 q) fun ws s3 ⟨vs, H3, I3, r3, q3⟩ => ⟨_, H3, I3, rv.append r3, q3⟩
def rNeE : R2 := fun x y H Q => ∃ a b ks, x = .ref a ∧ y = .ref b ∧ H a = some (.dK ks) ∧ H b = some (.dK []) ∧ Q (.bl (!ks.isEmpty)) H
theorem op_neE (hu : X.A.units < cLine) : OpR X (compareOp .NotEq) rNeE := by
  intro pins s σ H x y v u Q I rx ry h
  obtain ⟨a, b, ks, rfl, rfl, ea, eb, q⟩ := h
  obtain rfl : v = Value.ref a := rx
  obtain rfl : u = Value.ref b := ry
  obtain ⟨_, ya, va, ra, da⟩ := (show ObjOk X.prog X.w H s.heap a (.dK ks) from I.hok a _ ea)
  obtain ⟨_, yb, vb, rb, db⟩ := (show ObjOk X.prog X.w H s.heap b (.dK []) from I.hok b _ eb)
  cases rb
  have hl : va.length = ks.length := ra.length.symm
  refine PySem.W.keq_ne (knd := mixKind X.prog X.w) (r := true) ya yb da db hu (fun e => ?_) ⟨.bl _, H, I, rfl, ?_⟩
  · cases va with
    | nil => exact .nil
    | cons p r => cases e
  · have e : (va.length == ([] : List (Key × Value)).length && true) = ks.isEmpty := by
      rw [hl]
      cases ks <;> rfl
    rw [e]
    exact q
end
end L2

/-! ### small data -/
namespace KD
open PySem PySem.Spec PyProof.Rows L2
structure Ok (n m : Nat) (d : PyData) : Prop where
  dep : d.depth ≤ n
  wt : d.weight ≤ m
  ls : d.leavesShort 14 = true
  shw : d.showable = true
structure OkAll (n m : Nat) (ds : List PyData) : Prop where
  dep : PyData.depthAll ds ≤ n
  wt : PyData.weightAll ds ≤ m
  ls : PyData.leavesShortAll 14 ds = true
  shw : PyData.showableAll ds = true
theorem Ok.mono {n m n' m' : Nat} {d : PyData} (h : Ok n m d) (hn : n ≤ n') (hm : m ≤ m') : Ok n' m' d := ⟨Nat.le_trans h.dep hn, Nat.le_trans h.wt hm, h.ls, h.shw⟩
theorem OkAll.mono {n m n' m' : Nat} {ds : List PyData} (h : OkAll n m ds) (hn : n ≤ n') (hm : m ≤ m') : OkAll n' m' ds := ⟨Nat.le_trans h.dep hn, Nat.le_trans h.wt hm, h.ls, h.shw⟩
theorem OkAll.nil {n m : Nat} : OkAll n m [] := ⟨by simp [PyData.depthAll], by simp [PyData.weightAll], by simp [PyData.leavesShortAll], by simp [PyData.showableAll]⟩
theorem OkAll.cons {n a b : Nat} {d : PyData} {ds : List PyData} (h : Ok n a d) (t : OkAll n b ds) : OkAll n (a + 1 + b) (d :: ds) :=
  ⟨by simp only [PyData.depthAll]; exact Nat.max_le.mpr ⟨h.dep, t.dep⟩, by simp only [PyData.weightAll]; have := h.wt; have := t.wt; omega, by simp only [PyData.leavesShortAll, h.ls, t.ls, Bool.and_self], by simp only [PyData.showableAll, h.shw, t.shw, Bool.and_self]⟩
theorem OkAll.app {n : Nat} : ∀ {a b : Nat} {ds es : List PyData}, OkAll n a ds → OkAll n b es → OkAll n (a + b) (ds ++ es)
  | a, b, [], es, _, t => t.mono (Nat.le_refl _) (Nat.le_add_left _ _)
  | a, b, d :: ds, es, h, t => by
    have hd : max d.depth (PyData.depthAll ds) ≤ n := by simpa only [PyData.depthAll] using h.dep
    have hw : d.weight + 1 + PyData.weightAll ds ≤ a := by simpa only [PyData.weightAll] using h.wt
    have hl : d.leavesShort 14 = true ∧ PyData.leavesShortAll 14 ds = true := by simpa [PyData.leavesShortAll] using h.ls
    have hv : d.showable = true ∧ PyData.showableAll ds = true := by simpa [PyData.showableAll] using h.shw
    have h1 : Ok n d.weight d := ⟨Nat.le_trans (Nat.le_max_left _ _) hd, Nat.le_refl _, hl.1, hv.1⟩
    have h2 : OkAll n (a - d.weight - 1) ds := ⟨Nat.le_trans (Nat.le_max_right _ _) hd, by omega, hl.2, hv.2⟩
    exact (OkAll.cons h1 (OkAll.app h2 t)).mono (Nat.le_refl _) (by omega)
theorem Ok.tup {n m : Nat} {ds : List PyData} (h : OkAll n m ds) : Ok (n + 1) m (.tuple ds) :=
  ⟨by simp only [PyData.depth]; have := h.dep; omega, by simp only [PyData.weight]; exact h.wt, by simp only [PyData.leavesShort, h.ls], by simp only [PyData.showable, h.shw]⟩
theorem Ok.lst {n m : Nat} {ds : List PyData} (h : OkAll n m ds) : Ok (n + 1) m (.list ds) :=
  ⟨by simp only [PyData.depth]; have := h.dep; omega, by simp only [PyData.weight]; exact h.wt, by simp only [PyData.leavesShort, h.ls], by simp only [PyData.showable, h.shw]⟩
theorem Ok.str {n m : Nat} {z : Str} (hl : z.length ≤ m) (hc : ∀ c ∈ z.cps.toList, c < 128) : Ok n m (.str z) := by
  refine ⟨by simp [PyData.depth], by simp only [PyData.weight]; exact hl, ?_, by simp [PyData.showable]⟩
  simp only [PyData.leavesShort, List.all_eq_true, decide_eq_true_eq]
  intro c h
  have := hc c h
  have e : (16 : Nat) ^ 8 = 4294967296 := by decide
  omega
theorem Ok.bool {n m : Nat} (b : Bool) : Ok n m (.bool b) := ⟨by simp [PyData.depth], by simp [PyData.weight], rfl, rfl⟩
theorem Ok.none {n m : Nat} : Ok n m .none := ⟨by simp [PyData.depth], by simp [PyData.weight], rfl, rfl⟩
theorem Ok.num {n m : Nat} {i : Int} (h0 : -10000000000000 < i) (h1 : i < 10000000000000) (hm : 50 ≤ m) : Ok n m (.int i) := by
  have hl : i.natAbs < 2 ^ 44 := by
    have : (2 : Nat) ^ 44 = 17592186044416 := by decide
    omega
  refine ⟨by simp [PyData.depth], ?_, ?_, ?_⟩
  · simp only [PyData.weight]
    split
    · exact Nat.zero_le _
    · have := PySem.Flt.log2_lt_of (by decide : 0 < 44) hl
      omega
  · simp only [PyData.leavesShort, decide_eq_true_eq]
    show (Str.ofString (toString i)).length ≤ 14
    have e13 : (10 : Int) ^ 13 = 10000000000000 := by decide
    by_cases hn : 0 ≤ i
    · have := PyProof.Rows.toString_length_le hn (k := 13) (by decide) (by omega)
      omega
    · have e := PyProof.Rows.len_text_negI (n := i) (by omega)
      have := PyProof.Rows.toString_length_le (v := 0 - i) (by omega) (k := 13) (by decide) (by omega)
      omega
  · have := PySem.Flt.log2_lt_of (by decide : 0 < 44) hl
    simp only [PyData.showable, decide_eq_true_eq]
    omega
structure OkKv (n m : Nat) (ps : List (PyData × PyData)) : Prop where
  dep : PyData.depthKv ps ≤ n
  wt : PyData.weightKv ps ≤ m
  ls : PyData.leavesShortKv 14 ps = true
  shw : PyData.showableKv ps = true
theorem OkKv.nil {n m : Nat} : OkKv n m [] := ⟨by simp [PyData.depthKv], by simp [PyData.weightKv], by simp [PyData.leavesShortKv], by simp [PyData.showableKv]⟩
theorem OkKv.mono {n m n' m' : Nat} {ps : List (PyData × PyData)} (h : OkKv n m ps) (hn : n ≤ n') (hm : m ≤ m') : OkKv n' m' ps := ⟨Nat.le_trans h.dep hn, Nat.le_trans h.wt hm, h.ls, h.shw⟩
theorem OkKv.cons {n a b : Nat} {k v : PyData} {ps : List (PyData × PyData)} (hk : Ok n a k) (hv : Ok n a v) (t : OkKv n b ps) : OkKv n (2 * a + 2 + b) ((k, v) :: ps) :=
  ⟨by simp only [PyData.depthKv]; exact Nat.max_le.mpr ⟨Nat.max_le.mpr ⟨hk.dep, hv.dep⟩, t.dep⟩, by simp only [PyData.weightKv]; have := hk.wt; have := hv.wt; have := t.wt; omega, by simp only [PyData.leavesShortKv, hk.ls, hv.ls, t.ls, Bool.and_self], by simp only [PyData.showableKv, hk.shw, hv.shw, t.shw, Bool.and_self]⟩
theorem Ok.dict {n m : Nat} {ps : List (PyData × PyData)} (h : OkKv n m ps) : Ok (n + 1) m (.dict ps) :=
  ⟨by simp only [PyData.depth]; have := h.dep; omega, by simp only [PyData.weight]; exact h.wt, by simp only [PyData.leavesShort, h.ls], by simp only [PyData.showable, h.shw]⟩
theorem Ok.shown {n m : Nat} {d : PyData} (h : Ok n m d) (hn : n ≤ 64) (hm : m ≤ 100000) (hk : nl d = true) : shownQ d := by
  have hw := h.wt
  have := PyData.shown_le 14 (by decide) d h.ls
  have hd := h.dep
  exact ⟨h.shw, by omega, by rw [sizeLine_eq]; omega, fun _ => hk⟩
theorem Ok.shownR_ {n m : Nat} {d : PyData} (h : Ok n m d) (hn : n ≤ 64) (hm : m ≤ 100000) : shownR d := by
  have hw := h.wt
  have := PyData.shown_le 14 (by decide) d h.ls
  have hd := h.dep
  exact ⟨h.shw, by omega, by rw [sizeLine_eq]; omega⟩
/-! ### tuples stay -/
def TupS (H H' : Hp) : Prop := ∀ b xs, H b = some (.tup xs) → H' b = some (.tup xs)
theorem TupS.refl (H : Hp) : TupS H H := fun _ _ h => h
theorem TupS.trans {H H1 H2 : Hp} (a : TupS H H1) (b : TupS H1 H2) : TupS H H2 := fun c xs h => b c xs (a c xs h)
theorem TupS.same {H H' : Hp} (e : Same H H') : TupS H H' := fun b xs h => e _ _ h
theorem TupS.new {H : Hp} {q : Addr} {o : HO} (h : H q = none) : TupS H (upd H q o) := TupS.same (Same.new h)
theorem TupS.put {H : Hp} {q : Addr} {xs : List V} {o : HO} (h : H q = some (.lst xs)) : TupS H (upd H q o) := fun b ys e => by
  have n : b ≠ q := fun z => by
    rw [z, h] at e
    cases e
  rw [upd_ne n]
  exact e
theorem TupS.dput {H : Hp} {q : Addr} {xs : List (Key × V)} {o : HO} (h : H q = some (.dK xs)) : TupS H (upd H q o) := fun b ys e => by
  have n : b ≠ q := fun z => by
    rw [z, h] at e
    cases e
  rw [upd_ne n]
  exact e
/-! ### data of tuples alone -/
mutual
inductive Td (H : Hp) : V → PyData → Prop
  | bl (b : Bool) : Td H (.bl b) (.bool b)
  | int (i : Int) : Td H (.int i) (.int i)
  | str (x : Str) : Td H (.str x) (.str x)
  | tup {a : Addr} {xs : List V} {ds : List PyData} : H a = some (.tup xs) → TdAll H xs ds → Td H (.ref a) (.tuple ds)
inductive TdAll (H : Hp) : List V → List PyData → Prop
  | nil : TdAll H [] []
  | cons {v : V} {vs : List V} {d : PyData} {ds : List PyData} : Td H v d → TdAll H vs ds → TdAll H (v :: vs) (d :: ds)
end
mutual
theorem Td.mono {H H' : Hp} (e : TupS H H') : ∀ {v : V} {d : PyData}, Td H v d → Td H' v d
  | _, _, .bl b => .bl b
  | _, _, .int i => .int i
  | _, _, .str x => .str x
  | _, _, .tup h a => .tup (e _ _ h) (TdAll.mono e a)
theorem TdAll.mono {H H' : Hp} (e : TupS H H') : ∀ {vs : List V} {ds : List PyData}, TdAll H vs ds → TdAll H' vs ds
  | _, _, .nil => .nil
  | _, _, .cons h t => .cons (Td.mono e h) (TdAll.mono e t)
end
mutual
theorem Td.p {K : PySem.W.Frag} {H : Hp} : ∀ {v : V} {d : PyData}, Td H v d → Dp K H v d
  | _, _, .bl b => .bl b
  | _, _, .int i => .int i
  | _, _, .str x => .str x
  | _, _, .tup h a => .tup (SqT.of h) (TdAll.p a)
theorem TdAll.p {K : PySem.W.Frag} {H : Hp} : ∀ {vs : List V} {ds : List PyData}, TdAll H vs ds → DpAll K H vs ds
  | _, _, .nil => .nil
  | _, _, .cons h t => .cons (Td.p h) (TdAll.p t)
end
mutual
theorem Td.nl {H : Hp} : ∀ {v : V} {d : PyData}, Td H v d → L2.nl d = true
  | _, _, .bl b => by simp [L2.nl]
  | _, _, .int i => by simp [L2.nl]
  | _, _, .str x => by simp [L2.nl]
  | _, _, .tup h a => by simpa [L2.nl] using TdAll.nl a
theorem TdAll.nl {H : Hp} : ∀ {vs : List V} {ds : List PyData}, TdAll H vs ds → nls ds = true
  | _, _, .nil => by simp [nls]
  | _, _, .cons h t => by simp [nls, Td.nl h, TdAll.nl t]
end
theorem TdAll.app {H : Hp} : ∀ {vs ws : List V} {ds es : List PyData}, TdAll H vs ds → TdAll H ws es → TdAll H (vs ++ ws) (ds ++ es)
  | _, _, _, _, .nil, t => t
  | _, _, _, _, .cons h s, t => .cons h (TdAll.app s t)
theorem TdAll.len {H : Hp} : ∀ {vs : List V} {ds : List PyData}, TdAll H vs ds → vs.length = ds.length
  | _, _, .nil => rfl
  | _, _, .cons _ t => congrArg (· + 1) (TdAll.len t)
theorem Td.newT {q : Addr} {H : Hp} {xs : List V} {ds : List PyData} (hq : H q = none) (h : TdAll H xs ds) : Td (upd H q (.tup xs)) (.ref q) (.tuple ds) := .tup upd_same (h.mono (TupS.new hq))
theorem td_strs {H : Hp} : ∀ zs : List Str, TdAll H (zs.map V.str) (zs.map PyData.str)
  | [] => .nil
  | z :: zs => .cons (.str z) (td_strs zs)
theorem ok_strs {n m : Nat} : ∀ {zs : List Str}, (∀ z ∈ zs, z.length ≤ m ∧ ∀ c ∈ z.cps.toList, c < 128) → OkAll n (zs.length * (m + 1)) (zs.map PyData.str)
  | [], _ => .nil
  | z :: zs, h => (OkAll.cons (a := m) (.str (h z List.mem_cons_self).1 (h z List.mem_cons_self).2) (ok_strs fun y hy => h y (List.mem_cons_of_mem _ hy))).mono (Nat.le_refl _) (by rw [List.length_cons, Nat.succ_mul]; omega)
end KD
set_option Elab.async false
set_option linter.all false
set_option maxRecDepth 100000
set_option maxHeartbeats 4000000
namespace L2
open PySem PySem.Spec PyProof.Rows
/-! ### xs == [], xs of anything; xs.extend(t), t a tuple -/
def rEqNil (K : PySem.W.Frag) : R2 := fun x y H Q => ∃ a b xs, x = .ref a ∧ y = .ref b ∧ SqL K H a xs ∧ SqL K H b [] ∧ Q (.bl xs.isEmpty) H
def rNeNil (K : PySem.W.Frag) : R2 := fun x y H Q => ∃ a b xs, x = .ref a ∧ y = .ref b ∧ SqL K H a xs ∧ SqL K H b [] ∧ Q (.bl (!xs.isEmpty)) H
theorem list_extend_tupW (l : Addr) (items : Array Value) (n : Nat) (b : Addr) (items2 : Array Value) (n2 : Nat) (dd2 : Option Addr) (sl2 : Array (Option Value)) (hs0 : ¬(!items.isEmpty && Builtin.List.listTooLong (items.size + items2.size)) = true) (hs1 : items.size ≤ sizeLine) (hs2 : items.size + items2.size ≤ sizeLine + 1) :
    Meets (Builtin.«list.extend» ⟨[.ref l, .ref b], []⟩) (fun _ R s => s.heap.get? l = some { cls := .type "list", dict := none, data := .seq items n, slots := #[] } ∧ s.heap.get? b = some { cls := .type "tuple", dict := dd2, data := .seq items2 n2, slots := sl2 } ∧ R (.ok (.ret Value.none)) { s with heap := s.heap.update l (Obj.mapSeq fun x => x ++ items2), toks := s.toks }) :=
  .of_wp fun prog w A R s h => by
    obtain ⟨hp, g, d, tk, os⟩ := s
    obtain ⟨hl, hb, h⟩ := h
    have f1 := AutoSeq1.idx_int
    have f2 := AutoSeq1.sub_tuple_tuple
    have f3 := AutoSeq1.sub_list_list
    have f4 := AutoSeq1.sub_tuple_list
    have f5 := AutoSeq1.sub_list_tuple
    have hz' : (items ++ items2).size ≤ sizeLine + 1 := by rw [Array.size_append]; exact hs2
    wp_walk using (wpAny_updateSeq hl rfl (hz := hs1) (_hz' := hz')), AutoSeq1.wpAny_loadPart' hl, AutoSeq1.wpAny_loadPart' hb
    exact ⟨_, rfl, h⟩
def rExtT (K : PySem.W.Frag) : V → List V → Hp → VK → Prop := fun x vs H Q => ∃ l b xs zs, x = .ref l ∧ vs = [.ref b] ∧ H l = some (.lst xs) ∧ SqT K H b zs ∧ xs.length + zs.length ≤ sizeLine ∧ Q .non (upd H l (.lst (xs ++ zs)))
section
variable {X : Cx}
theorem op_eqNil (hu : X.A.units + 64 < cLine) : OpR X (compareOp .Eq) (rEqNil X.K) := by
  intro pins s σ H x y v u Q I rx ry h
  obtain ⟨a, b, xs, rfl, rfl, ha, hb, q⟩ := h
  cases rx
  cases ry
  obtain ⟨its, r1, ⟨⟨cls, dd, data, sl⟩, n, ho, hc, hdn, hd⟩, hz1⟩ := I.list ha
  obtain ⟨its2, r2, ⟨⟨cls2, dd2, data2, sl2⟩, n2, ho2, hc2, hdn2, hd2⟩, hz2⟩ := I.list hb
  simp only at hc hd hc2 hd2
  subst hc hd hc2 hd2
  cases r2
  have hl1 := r1.length
  cases xs with
  | nil =>
    cases r1
    have e := SeqAt.list_eqAt a b (#[] : Array Value) (#[] : Array Value) n n2 dd dd2 sl sl2 rfl (fun _ => true)
    exact richCompare_meets_room (op := .Eq) ⟨_, ho, rfl⟩ ⟨_, ho2, rfl⟩ F.slot_list_eq F.entry_list_eq (F.args_list_eq_2 _ _) e
      ⟨ho, ho2, fun j h1 => absurd h1 (Nat.not_lt_zero _), show Value.bool true ≠ Value.notImplemented ∧ _ from ⟨(fun x => nomatch x), .bl true, H, I, rfl, q⟩⟩ (by omega)
  | cons y ys =>
    have hne : (its.toArray.size != (#[] : Array Value).size) = true := by
      rw [List.size_toArray, ← hl1]
      rfl
    exact richCompare_meets_room (op := .Eq) ⟨_, ho, rfl⟩ ⟨_, ho2, rfl⟩ F.slot_list_eq F.entry_list_eq (F.args_list_eq_2 _ _) (SeqAt.list_eq_lengthsAt a b its.toArray #[] n n2 dd dd2 sl sl2 hne)
      ⟨ho, ho2, show Value.bool false ≠ Value.notImplemented ∧ _ from ⟨(fun x => nomatch x), .bl false, H, I, rfl, q⟩⟩ (by omega)
theorem op_neNil (hu : X.A.units + 64 < cLine) : OpR X (compareOp .NotEq) (rNeNil X.K) := by
  intro pins s σ H x y v u Q I rx ry h
  obtain ⟨a, b, xs, rfl, rfl, ha, hb, q⟩ := h
  cases rx
  cases ry
  obtain ⟨its, r1, ⟨⟨cls, dd, data, sl⟩, n, ho, hc, hdn, hd⟩, hz1⟩ := I.list ha
  obtain ⟨its2, r2, ⟨⟨cls2, dd2, data2, sl2⟩, n2, ho2, hc2, hdn2, hd2⟩, hz2⟩ := I.list hb
  simp only at hc hd hc2 hd2
  subst hc hd hc2 hd2
  cases r2
  have hl1 := r1.length
  cases xs with
  | nil =>
    cases r1
    have e := SeqAt.list_neAt a b (#[] : Array Value) (#[] : Array Value) n n2 dd dd2 sl sl2 rfl (fun _ => true)
    exact richCompare_meets_room (op := .NotEq) ⟨_, ho, rfl⟩ ⟨_, ho2, rfl⟩ F.slot_list_ne F.entry_list_ne (F.args_list_ne_2 _ _) e
      ⟨ho, ho2, fun j h1 => absurd h1 (Nat.not_lt_zero _), show Value.bool false ≠ Value.notImplemented ∧ _ from ⟨(fun x => nomatch x), .bl false, H, I, rfl, q⟩⟩ (by omega)
  | cons y ys =>
    have hne : (its.toArray.size != (#[] : Array Value).size) = true := by
      rw [List.size_toArray, ← hl1]
      rfl
    exact richCompare_meets_room (op := .NotEq) ⟨_, ho, rfl⟩ ⟨_, ho2, rfl⟩ F.slot_list_ne F.entry_list_ne (F.args_list_ne_2 _ _) (SeqAt.list_ne_lengthsAt a b its.toArray #[] n n2 dd dd2 sl sl2 hne)
      ⟨ho, ho2, show Value.bool true ≠ Value.notImplemented ∧ _ from ⟨(fun x => nomatch x), .bl true, H, I, rfl, q⟩⟩ (by omega)
theorem mt_extendT : MtM X "list.extend" (rExtT X.K) := by
  intro pins s σ H x vs v us Q I rx rv h
  obtain ⟨l, b, xs, zs, rfl, rfl, hH, hB, hz, q⟩ := h
  cases rx
  obtain ⟨u, rfl, ru⟩ := rv.one
  cases ru
  obtain ⟨z, its, n, r, hl, e⟩ := I.lstM hH
  obtain ⟨its2, r2, ⟨⟨cls2, dd2, data2, sl2⟩, ho2, hc2, n2, hd2⟩, z2⟩ := I.tuple hB
  simp only at hc2 hd2
  subst hc2 hd2
  have hl2 := r2.length
  have hsz : its.toArray.size + its2.toArray.size ≤ sizeLine := by rw [List.size_toArray, List.size_toArray]; omega
  have hlong : ¬ (!its.toArray.isEmpty && Builtin.List.listTooLong (its.toArray.size + its2.toArray.size)) = true := by
    rw [notLongL hsz, Bool.and_false]
    exact Bool.false_ne_true
  refine call_meets F.slot_list_extend ⟨_, e, rfl⟩ F.entry_list_extend (F.args_list_extend_2 _ _)
    (list_extend_tupW l its.toArray n b its2.toArray n2 dd2 sl2 hlong (by rw [List.size_toArray]; omega) (by omega)) ⟨e, ho2, ?_⟩
  refine ⟨.non, _, I.lset (its' := its ++ its2) hH e (by simp) (r.append r2) ?_, rfl, q⟩
  rw [List.length_append]
  omega
end
end L2
set_option Elab.async false
set_option linter.all false
set_option maxRecDepth 100000
set_option maxHeartbeats 4000000
namespace L2
open PySem PySem.Spec PyProof.Rows L2H
open C8 (Def fnBody fnScope fnArgs)
/-! ### defs that may raise -/
structure CalX (P : Program) (w : World) (K : PySem.W.Frag) (mg : Str → Option Value) (base : Heap) (k : Nat) (x : Str) (sp : Sp) : Prop where
  ex : ∃ (f : Addr) (fd : FuncData) (ps : List Str), FnOk P w K mg base (L2N.CX P w) k f fd ps sp ∧ mg x = some (.ref f) ∧ PySem.W.keepIn K (.ref f) = true ∧ Binds K fd ps []
section
variable {P : Program} {w : World} {K : PySem.W.Frag} {mg : Str → Option Value} {base : Heap}
theorem calX0 {x : Str} {st : Stmt} {f : Addr} {fd : FuncData} {N ps : List Str} {k : Nat} {sp : Sp} (D : Def K mg x st f fd) (b : Binds K fd ps []) (S : FnScope N ps (fnScope st)) (ln : ∀ vs H Q E, sp vs H Q E → vs.length = ps.length)
    (hb : ∀ (cdv : Value) (A : Around) (outer : List Env) (s : Shared) (H : Hp) (vs : List V) (Q : VK) (E : XK), Room k (A.deeper (envOfC x (fnScope st) s.heap.objs.size f cdv)) → sp vs H Q E →
      ∃ t, PSs (cxOf (L2N.CX P w) P w K mg base N x (fnScope st) f cdv A outer s H E) (fnBody st) t ∧ t { nx := fun _ H' => Q .non H', rt := Q } (start N vs) H) : CalX P w K mg base (k + 1) x sp := by
  obtain ⟨oc, od, dV, kV, doc, pm, an, cdv, ct, osl, rfl, lk, hcd⟩ := D.fn.ex
  exact ⟨f, _, ps, fn_of lk hcd S ln (fun A outer s H vs Q E hr hs => hb cdv A outer s H vs Q E hr hs), D.mgf, D.kp, b⟩
end
section
variable {X : Cx} {k j : Nat} {x : Str} {sp : Sp} {W : WX} {p pos : Pos} {e : Expr} {es : List Expr} {t : TA}
/-- such a def called: what it lets out is taken by W -/
theorem pe_cx (c : CalX X.prog X.w X.K X.mg X.base k x sp) (tk : L2N.Takes X W) (hr : Room j X.A) (hk : k ≤ j) (hg : Gl X x) (ha : PA X (e :: es) t)
    (hdb : (x == ("__debug__" : Str)) = false := by decide) (he : starEach (e :: es) X.env = (false, eval e X.env) :: starEach es X.env := by rfl) (hpl : (backTo pos (starEach es X.env)).any (·.1) = false := by rfl) :
    PE X (.Call (.Name x p) (e :: es) [] pos) (tCallS sp (WE W) t) := by
  obtain ⟨f, fd, ps, F, hm, kp, hb⟩ := c.ex
  exact pe_callS F (hr.mono hk) hg hm kp hb (fun σ => L2N.passAt tk σ) ha hdb he hpl
end
/-! ### a def called within an except suite, the exception handed in -/
/-- its promise knows the exception's own object -/
structure FnE (P : Program) (w : World) (K : PySem.W.Frag) (mg : Str → Option Value) (base : Heap) (k : Nat) (f : Addr) (fd : FuncData) (ps : List Str) (sp : Addr × Obj → Sp) : Prop where
  len : ∀ p vs H Q E, sp p vs H Q E → vs.length = ps.length
  run : ∀ (p : Addr × Obj) (A : Around), RoomH k A → Hot1 A p → ∀ (outer : List Env) (s : Shared) (H : Hp), PinOk outer H s p → Env0 P w K mg base A outer s H → ∀ (args : Args) (us : List Value) (vs : List V) (Q : VK) (E : XK),
    BindsTo s fd args (ps.zip us) → Vals vs us → sp p vs H Q E → codeAny (model P w) A (.call (.ref f) args) (CR C8.CX0 outer P w H s Q E) s
structure CalE (P : Program) (w : World) (K : PySem.W.Frag) (mg : Str → Option Value) (base : Heap) (k : Nat) (x : Str) (sp : Addr × Obj → Sp) : Prop where
  ex : ∃ (f : Addr) (fd : FuncData) (ps : List Str), FnE P w K mg base k f fd ps sp ∧ mg x = some (.ref f) ∧ PySem.W.keepIn K (.ref f) = true ∧ Binds K fd ps []
section
variable {P : Program} {w : World} {K : PySem.W.Frag} {mg : Str → Option Value} {base : Heap}
theorem calE0 {x : Str} {st : Stmt} {f : Addr} {fd : FuncData} {N ps : List Str} {k : Nat} {sp : Addr × Obj → Sp} (D : Def K mg x st f fd) (b : Binds K fd ps []) (S : FnScope N ps (fnScope st)) (ln : ∀ p vs H Q E, sp p vs H Q E → vs.length = ps.length)
    (hb : ∀ (cdv : Value) (A : Around) (outer : List Env) (s : Shared) (H : Hp) (vs : List V) (Q : VK) (E : XK) (p : Addr × Obj), Hot1 A p → RoomH k (A.deeper (envOfC x (fnScope st) s.heap.objs.size f cdv)) → sp p vs H Q E →
      ∃ t, PSs (cxH C8.CX0 P w K mg base N x (fnScope st) f cdv A outer s H E p) (fnBody st) t ∧ t { nx := fun _ H' => Q .non H', rt := Q } (start N vs) H) : CalE P w K mg base (k + 1) x sp := by
  obtain ⟨oc, od, dV, kV, doc, pm, an, cdv, ct, osl, rfl, lk, hcd⟩ := D.fn.ex
  refine ⟨f, _, ps, ⟨ln, ?_⟩, D.mgf, D.kp, b⟩
  intro p A hr hot outer s H hpin e0 args us vs Q E hbd rv hsp
  have hln := ln _ _ _ _ _ hsp
  have inK : K.In s.heap := e0.mod.kin.keeps (fun b o e => (e0.bs b o e).1)
  have noL : s.heap.NoLimit := e0.mod.nolimit.keeps (fun b o e => (e0.bs b o e).1)
  have hkd : ∀ y ∈ ps.zip us, (fnScope st).names.lookup y.1 = some .local ∨ ((fnScope st).names.lookup y.1 = some .cell ∧ ((cellsFrom (s.heap.objs.size + 1) (fnScope st).names []).lookup y.1).isSome = true) := by
    rintro ⟨n, v⟩ hy
    rcases S.par n (List.of_mem_zip hy).1 with z | z
    · exact Or.inl z
    · exact Or.inr ⟨z, PySem.W.cellsFrom_some _ _ _ (Or.inl z)⟩
  refine codeAny_call_function hr.depth (inK _ _ lk) rfl S.co S.gen rfl
    (PySem.W.codeRec_of inK hcd) (hbd _ _ _ _ ?_)
  refine wpAny_newFunctionEnv_cells S.kind hkd
    (fun env he s1 ic => ?_)
  subst he
  refine ⟨noL.keeps ic.toInCall.keep, codeAny_func ?_⟩
  obtain ⟨t, ht, hq⟩ := hb cdv A outer s H vs Q E p hot (hr.deeper _) hsp
  have I0 := inv_startH (CX := C8.CX0) (E := E) S hpin e0 hln rv ic
  refine wpAny_mono (ht.run [] s1 (start N vs) H _ I0 hq)
    (fun fl s' hs => ?_) (fun e s' hs => hs)
  have done : ∀ {σ' : St} {H' : Hp} {v : V} {u : Value}, Inv (cxH C8.CX0 P w K mg base N x (fnScope st) f cdv A outer s H E p) [] σ' H' s' → RelV v u → Q v H' → CE outer P w H s Q u s' := by
    intro σ' H' v u J r q
    exact ⟨v, H', J.os, J.bare, J.base, J.hok, r, q⟩
  cases fl with
  | ret u =>
    obtain ⟨v, σ', H', J, r, q⟩ := hs
    exact done J r q
  | next =>
    obtain ⟨σ', H', J, q⟩ := hs
    exact done (v := .non) (u := .none) J rfl q
  | brk => exact (hs.elim fun _ ⟨_, _, q⟩ => q.elim)
  | cont => exact (hs.elim fun _ ⟨_, _, q⟩ => q.elim)
end
section
variable {X : Cx} {k j : Nat} {x : Str} {sp : Addr × Obj → Sp} {q : Addr × Obj} {p pos : Pos} {e : Expr} {es : List Expr} {t : TA}
/-- the call, q the exception that is handled -/
theorem pe_ce (c : CalE X.prog X.w X.K X.mg X.base k x sp) (hot : Hot1 X.A q) (hq : q ∈ X.pn) (hr : RoomH j X.A) (hk : k ≤ j) (hg : Gl X x) (ha : PA X (e :: es) t)
    (hdb : (x == ("__debug__" : Str)) = false := by decide) (he : starEach (e :: es) X.env = (false, eval e X.env) :: starEach es X.env := by rfl) (hpl : (backTo pos (starEach es X.env)).any (·.1) = false := by rfl) :
    PE X (.Call (.Name x p) (e :: es) [] pos) (tCall (sp q) [] C8.E0 t) := by
  obtain ⟨f, fd, ps, F, hm, kp, hb⟩ := c.ex
  refine ⟨fun pins s σ H Q I h => ?_⟩
  refine wpAny_Call_Name_kw (ld_glob I hg hm ?_ hdb)
  refine PySem.W.callWith_K (h₀ := X.base) I.ok.mod.kin kp (thn (ha.run pos pins s σ H _ I h) fun us s1 ⟨vs, H1, I1, r, w⟩ => ⟨I1.kIn, ?_⟩) he hpl
  have r2 : Vals (vs ++ []) (us ++ []) := r.append .nil
  have hl : (us ++ []).length = ps.length := by rw [← r2.length]; exact F.len _ _ _ _ _ w
  have pin := I1.pin q (List.mem_append_left _ hq)
  have ok : PinOk X.stack H1 s1 q := by
    refine ⟨pin.1, pin.2.1, fun z => ?_, pin.2.2.2.2⟩
    rcases List.mem_cons.mp (I1.stkSub q.1 z) with z | z
    · exact pin.2.2.1 z
    · exact pin.2.2.2.1 z
  refine wpAny_call (codeAny_mono (F.run q X.A (hr.mono hk) hot X.stack s1 H1 ok I1.env0 ⟨us, []⟩ (us ++ []) (vs ++ []) Q C8.E0 (hb s1 us I1.kIn hl) r2 w) fun r s' hq => ?_)
  cases r with
  | error e => exact (C8.pass0 (X := X) (E := C8.E0)) pins σ H1 s1 e s' I1 hq
  | ok fl =>
    cases fl with
    | ret u => exact I1.after hq
    | next => exact False.elim hq
    | brk => exact False.elim hq
    | cont => exact False.elim hq
end
section
variable {X : Cx} {k j : Nat} {x : Str} {sp : Addr → Value → Option Addr → Sp} {a : Addr} {oe : Obj} {cls : Value} {d : Option Addr} {p pos : Pos} {e : Expr} {es : List Expr} {t : TA}
/-- .. in a suite: the promise speaks of the exception's address, class, own dict -/
theorem pe_ce2 (c : CalE X.prog X.w X.K X.mg X.base k x fun q => sp q.1 q.2.cls q.2.dict) (hot : Hot1 X.A (a, oe)) (hq : (a, oe) ∈ X.pn) (hz : L2N.Zn cls d oe) (hr : RoomH j X.A) (hk : k ≤ j) (hg : Gl X x) (ha : PA X (e :: es) t)
    (hdb : (x == ("__debug__" : Str)) = false := by decide) (he : starEach (e :: es) X.env = (false, eval e X.env) :: starEach es X.env := by rfl) (hpl : (backTo pos (starEach es X.env)).any (·.1) = false := by rfl) :
    PE X (.Call (.Name x p) (e :: es) [] pos) (tCall (sp a cls d) [] C8.E0 t) := by
  have h := pe_ce (p := p) c hot hq hr hk hg ha hdb he hpl
  rw [← hz.1, ← hz.2.1]
  exact h
/-- no exception is let out -/
theorem takes0N : L2N.Takes X (fun _ _ _ _ => False) := fun _ _ z => by
  obtain ⟨_, _, _, _, _, _, _, _, _, _, _, _, _, _, _, _, u⟩ := z
  exact u.elim
end
/-! ### isinstance of it -/
/-- an own exception's object, of the class at D -/
structure OwnE (D : Addr) (q : Addr × Obj) : Prop where
  cl : q.2.cls = .ref D
  nd : q.2.dict = none
  fl : ∃ vs, q.2.data = .fields vs
theorem OwnE.at_ {D : Addr} {q : Addr × Obj} (o : OwnE D q) {h : Heap} (e : h.get? q.1 = some q.2) : PySem.W.InstAt h q.1 q.2 D none := by
  obtain ⟨a, oc, od, oda, osl⟩ := q
  obtain ⟨h1, h2, vs, h3⟩ := o
  dsimp only at h1 h2 h3 e
  subst h1 h2 h3
  exact ⟨e, rfl, rfl, trivial⟩
def rIsP (K : PySem.W.Frag) (D : Addr) (q : Addr × Obj) : List V → Hp → VK → Prop := fun xs H Q => ∃ (c : V) (u : Value) (b : Bool), xs = [.ref q.1, c] ∧ ClsV c u ∧ PySem.W.kitOne K (.ref D) u = some b ∧ Q (.bl b) H
def rIsPs (K : PySem.W.Frag) (D : Addr) (q : Addr × Obj) : List V → Hp → VK → Prop := fun xs H Q => ∃ (tp : Addr) (cs : List V) (us : List Value) (b : Bool), xs = [.ref q.1, .ref tp] ∧ H tp = some (.tup cs) ∧ Paired ClsV cs us ∧ PySem.W.kitAny K (.ref D) us = some b ∧ Q (.bl b) H
section
variable {X : Cx} {D : Addr} {q : Addr × Obj}
theorem call_isP (C : ExcC X.K D) (o : OwnE D q) (hq : q ∈ X.pn) : CallR X (.builtin "isinstance") (rIsP X.K D q) := by
  intro pins s σ H xs us Q I r h
  obtain ⟨c, u, b, rfl, hc, e, w⟩ := h
  obtain ⟨u1, u2, rfl, r1, r2⟩ := vals2 r
  cases r1
  have e2 := hc.eq r2
  subst e2
  have J := o.at_ (I.pin q (List.mem_append_left _ hq)).1
  exact PySem.W.kia_one (PySem.W.handS_kitx_exc C.hg C.hk C.hs C.hd C.ha C.hn C.ht C.hm) I.kIn J e (fun z => nomatch z) fun tk => ⟨.bl b, H, I.kept (t' := tk) fun _ _ z => z, rfl, w⟩
theorem call_isPs (C : ExcC X.K D) (o : OwnE D q) (hq : q ∈ X.pn) : CallR X (.builtin "isinstance") (rIsPs X.K D q) := by
  intro pins s σ H xs us Q I r h
  obtain ⟨tp, cs, ws, b, rfl, hT, hc, e, w⟩ := h
  obtain ⟨u1, u2, rfl, r1, r2⟩ := vals2 r
  cases r1
  cases (show u2 = Value.ref tp from r2)
  have J := o.at_ (I.pin q (List.mem_append_left _ hq)).1
  obtain ⟨_, its, rv, ⟨oc, od, dt, sl⟩, g1, g2, n, g3⟩ := (show ObjOk X.prog X.w H s.heap tp (.tup cs) from I.hok tp _ hT)
  have e2 := ClsV.all hc rv
  simp only at g2 g3
  subst e2 g2 g3
  exact PySem.W.kia_tup (PySem.W.handS_kitx_exc C.hg C.hk C.hs C.hd C.ha C.hn C.ht C.hm) I.kIn J g1 e (fun z => nomatch z) fun tk => ⟨.bl b, H, I.kept (t' := tk) fun _ _ z => z, rfl, w⟩
end
end L2
set_option Elab.async false
set_option linter.all false
set_option maxRecDepth 100000
set_option maxHeartbeats 4000000
/-! len of a set of texts -/
namespace L2
open PySem PySem.Spec PyProof.Rows
abbrev rLenS (K : PySem.W.Frag) : List V → Hp → VK → Prop := fun xs H Q => ∃ p ys, xs = [.ref p] ∧ (SqL K H p ys ∨ SqT K H p ys) ∧ Q (.int ys.length) H
def rLenX (P : Program) (w : World) : List V → Hp → VK → Prop := fun vs H Q => ∃ (a : Addr) (l : List Str), vs = [V.ref a] ∧ H a = some (SetXO P w a l) ∧ l.length < 100000 ∧ Q (.int (l.length : Nat)) H
section
variable {X : Cx}
theorem call_lenX : CallR X (.builtin "len") (rLenX X.prog X.w) := by
  intro pins s σ H vs us Q I r h
  obtain ⟨a, l, rfl, ha, h64, q⟩ := h
  have x : SetX X.prog X.w s.heap a l := (I.hok a _ ha).1
  obtain ⟨⟨es, ep, t⟩, e, F, nd, ri, ld⟩ := x
  have hsz : es.size = l.length := F.sz
  rw [Vals.ref1 r]
  refine call_len_set e ⟨rfl, rfl, rfl⟩ rfl F.fit (by rw [hsz]; have : (2 : Int) ^ 63 = 9223372036854775808 := by decide
                                                      omega) ⟨.int (l.length : Nat), H, I.tok _, ⟨_, by rw [hsz]⟩, q⟩
end
/-! ### a tuple == () -/
def rEqTNil (K : PySem.W.Frag) : R2 := fun x y H Q => ∃ a b xs, x = .ref a ∧ y = .ref b ∧ SqT K H a xs ∧ SqT K H b [] ∧ Q (.bl xs.isEmpty) H
section
variable {X : Cx}
theorem op_eqTNil (hu : X.A.units + 64 < cLine) : OpR X (compareOp .Eq) (rEqTNil X.K) := by
  intro pins s σ H x y v u Q I rx ry h
  obtain ⟨a, b, xs, rfl, rfl, ha, hb, q⟩ := h
  cases rx
  cases ry
  obtain ⟨its, r1, ⟨⟨cls, dd, data, sl⟩, ho, hc, n, hd⟩, hz1⟩ := I.tuple ha
  obtain ⟨its2, r2, ⟨⟨cls2, dd2, data2, sl2⟩, ho2, hc2, n2, hd2⟩, hz2⟩ := I.tuple hb
  simp only at hc hd hc2 hd2
  subst hc hd hc2 hd2
  cases r2
  have hl1 := r1.length
  have e := SeqAt.tuple_eqAt a b its.toArray (#[] : Array Value) n n2 dd dd2 sl sl2 (fun _ => true)
  have er : ((List.range (min its.toArray.size (#[] : Array Value).size)).all (fun _ => true) && its.toArray.size == (#[] : Array Value).size) = xs.isEmpty := by
    have h0 : min its.toArray.size (#[] : Array Value).size = 0 := Nat.min_zero _
    rw [h0, List.size_toArray, ← hl1]
    cases xs <;> rfl
  exact richCompare_meets_room (op := .Eq) ⟨_, ho, rfl⟩ ⟨_, ho2, rfl⟩ F.slot_tuple_eq F.entry_tuple_eq (F.args_tuple_eq_2 _ _) e
    ⟨ho, ho2, fun j h1 h2 => absurd h2 (Nat.not_lt_zero _), show Value.bool _ ≠ Value.notImplemented ∧ _ from ⟨(fun x => nomatch x), .bl _, H, I, by rw [er]; rfl, q⟩⟩ (by omega)
end
/-! ### two for in one comprehension: over a tuple, and over a list within -/
/-- what a loop wants, by what stands at each place -/
theorem by_place {n : Nat} {H0 : Hp} {Go Stop : Nat → Hp → Prop} {Body : Nat → Hp → (Hp → Prop) → Prop} (At : Nat → Hp → Prop) (h0 : At 0 H0) (hs : ∀ i H, i < n → At i H → Go i H ∧ Body i H (At (i + 1))) (hd : ∀ H, At n H → Stop n H) :
    ∃ W : Nat → Nat → Hp → Prop, (∃ m, W 0 m H0) ∧ ∀ i m H, W i m H → Stop i H ∨ (Go i H ∧ ∃ Nx : Hp → Prop, (∀ H', Nx H' → ∃ m', m' < m ∧ W (i + 1) m' H') ∧ Body i H Nx) := by
  refine ⟨fun i m H => i + m = n ∧ At i H, ⟨n, Nat.zero_add n, h0⟩, fun i m H w => ?_⟩
  obtain ⟨e, p⟩ := w
  cases m with
  | zero =>
    obtain rfl : i = n := e
    exact Or.inl (hd H p)
  | succ m =>
    have r := hs i H (by omega) p
    exact Or.inr ⟨r.1, At (i + 1), fun H' p' => ⟨m, Nat.lt_succ_self m, by omega, p'⟩, r.2⟩
theorem lc2_tup {K : PySem.W.Frag} {a : Addr} {xs : List V} {g g1 : TG} {tt tt1 : TT} {wi1 : TI} {te : TE} {vs vs1 : List Nat} {σ : L2.St} {H1 : Hp} {D : Addr} {Qd : Hp → Prop} (Pv : Nat → Hp → Prop) (h0 : Pv 0 (upd H1 D (.lst []))) (hl : ∀ i H, i ≤ xs.length → Pv i H → SqT K H a xs)
    (hs : ∀ i x H, xs[i]? = some x → Pv i H → g x (wipe σ vs) H fun σ2 H2 => wipe σ2 vs = wipe σ vs ∧ tt σ2 H2 fun b H3 =>
      if b = true then wi1 σ2 H3 fun J1 H4 => ∃ W1 : Nat → Nat → Hp → Prop, (∃ m, W1 0 m H4) ∧ ∀ j k H, W1 j k H →
        (J1.stop j H ∧ Pv (i + 1) H) ∨ (J1.go j H ∧ ∃ Nx1 : Hp → Prop, (∀ H', Nx1 H' → ∃ k', k' < k ∧ W1 (j + 1) k' H') ∧ ∀ x H', J1.yld j H x H' → g1 x (wipe σ2 vs1) H' fun σ3 H5 => wipe σ3 vs1 = wipe σ2 vs1 ∧ tt1 σ3 H5 fun b H6 =>
          if b = true then te σ3 H6 fun y H7 => ∃ acc, H7 D = some (.lst acc) ∧ acc.length < sizeLine ∧ Nx1 (upd H7 D (.lst (acc ++ [y]))) else Nx1 H6)
      else Pv (i + 1) H3) (hd : ∀ H, Pv xs.length H → Qd H) :
    ∃ W : Nat → Nat → Hp → Prop, (∃ m, W 0 m (upd H1 D (.lst []))) ∧ ∀ q m H, W q m H →
      ((Itt K a).stop q H ∧ Qd H) ∨ ((Itt K a).go q H ∧ ∃ Nx : Hp → Prop, (∀ H', Nx H' → ∃ m', m' < m ∧ W (q + 1) m' H') ∧ ∀ x H', (Itt K a).yld q H x H' → g x (wipe σ vs) H' fun σ2 H2 => wipe σ2 vs = wipe σ vs ∧ tt σ2 H2 fun b H3 =>
        if b = true then wi1 σ2 H3 fun J1 H4 => ∃ W1 : Nat → Nat → Hp → Prop, (∃ m, W1 0 m H4) ∧ ∀ j k H, W1 j k H →
          (J1.stop j H ∧ Nx H) ∨ (J1.go j H ∧ ∃ Nx1 : Hp → Prop, (∀ H', Nx1 H' → ∃ k', k' < k ∧ W1 (j + 1) k' H') ∧ ∀ x H', J1.yld j H x H' → g1 x (wipe σ2 vs1) H' fun σ3 H5 => wipe σ3 vs1 = wipe σ2 vs1 ∧ tt1 σ3 H5 fun b H6 =>
            if b = true then te σ3 H6 fun y H7 => ∃ acc, H7 D = some (.lst acc) ∧ acc.length < sizeLine ∧ Nx1 (upd H7 D (.lst (acc ++ [y]))) else Nx1 H6)
        else Nx H3) := by
  refine by_place (n := xs.length) Pv h0 (fun i H hi p => ⟨⟨xs, xs[i], hl i H (Nat.le_of_lt hi) p, List.getElem?_eq_getElem hi⟩, fun x H' y => ?_⟩) (fun H p => ⟨⟨xs, hl _ H (Nat.le_refl _) p, Nat.le_refl _⟩, hd H p⟩)
  rw [y.1]
  exact hs i x H (y.2 xs (hl i H (Nat.le_of_lt hi) p)) p
theorem lc2_in {K : PySem.W.Frag} {l : Addr} {ys : List V} {g1 : TG} {tt1 : TT} {te : TE} {vs1 : List Nat} {σ2 : L2.St} {H4 : Hp} {D : Addr} {Nx : Hp → Prop} (Pi : Nat → Hp → Prop) (h0 : Pi 0 H4) (hl : ∀ j H, j ≤ ys.length → Pi j H → SqL K H l ys)
    (hs : ∀ j y H, ys[j]? = some y → Pi j H → g1 y (wipe σ2 vs1) H fun σ3 H5 => wipe σ3 vs1 = wipe σ2 vs1 ∧ tt1 σ3 H5 fun b H6 =>
      if b = true then te σ3 H6 fun y H7 => ∃ acc, H7 D = some (.lst acc) ∧ acc.length < sizeLine ∧ Pi (j + 1) (upd H7 D (.lst (acc ++ [y]))) else Pi (j + 1) H6) (hd : ∀ H, Pi ys.length H → Nx H) :
    ∃ W1 : Nat → Nat → Hp → Prop, (∃ m, W1 0 m H4) ∧ ∀ j k H, W1 j k H →
      ((Itl K l).stop j H ∧ Nx H) ∨ ((Itl K l).go j H ∧ ∃ Nx1 : Hp → Prop, (∀ H', Nx1 H' → ∃ k', k' < k ∧ W1 (j + 1) k' H') ∧ ∀ x H', (Itl K l).yld j H x H' → g1 x (wipe σ2 vs1) H' fun σ3 H5 => wipe σ3 vs1 = wipe σ2 vs1 ∧ tt1 σ3 H5 fun b H6 =>
        if b = true then te σ3 H6 fun y H7 => ∃ acc, H7 D = some (.lst acc) ∧ acc.length < sizeLine ∧ Nx1 (upd H7 D (.lst (acc ++ [y]))) else Nx1 H6) := by
  refine by_place (n := ys.length) Pi h0 (fun j H hj p => ⟨⟨ys, ys[j], hl j H (Nat.le_of_lt hj) p, List.getElem?_eq_getElem hj⟩, fun x H' y => ?_⟩) (fun H p => ⟨⟨ys, hl _ H (Nat.le_refl _) p, Nat.le_refl _⟩, hd H p⟩)
  rw [y.1]
  exact hs j x H (y.2 ys (hl j H (Nat.le_of_lt hj) p)) p
end L2
set_option Elab.async false
set_option linter.all false
set_option maxRecDepth 100000
set_option maxHeartbeats 4000000
/-! t[::-1] of a tuple -/
namespace L2
open PySem PySem.Spec PyProof.Rows
section
variable {prog : Program} {w : World} {A : Around} {E : Value → Shared → Prop} {s : Shared}
theorem back_places (n : Nat) : Builtin.Slice.slicePlaces ((n : Int) - 1) (-1) (-1) = n := by
  unfold Builtin.Slice.slicePlaces
  rw [if_neg (by decide)]
  cases n with
  | zero => rfl
  | succ m =>
    rw [if_pos (by omega)]
    have e : (((m + 1 : Nat) : Int) - 1 - -1 - 1) / (- -1) + 1 = ((m + 1 : Nat) : Int) := by
      rw [show (- -1 : Int) = 1 by decide, Int.ediv_one]
      omega
    rw [e]
    rfl
theorem back_pick (xs : Array Value) : ((List.range xs.size).filterMap fun (k : Nat) => xs[((xs.size : Int) - 1 + (k : Int) * (-1)).toNat]?) = xs.toList.reverse := by
  have e : (fun (k : Nat) => xs[((xs.size : Int) - 1 + (k : Int) * (-1)).toNat]?) = (fun j => xs[j]?) ∘ fun (k : Nat) => ((xs.size : Int) - 1 + (k : Int) * (-1)).toNat := rfl
  rw [e, ← List.filterMap_map]
  have e2 : (List.range xs.size).map (fun (k : Nat) => ((xs.size : Int) - 1 + (k : Int) * (-1)).toNat) = (List.range xs.size).reverse := by
    rw [← PySem.W.krv_range]
    refine List.map_congr_left fun k hk => ?_
    have := List.mem_range.mp hk
    omega
  rw [e2, List.filterMap_reverse, PySem.W.krv_all]
theorem back_applied {sl : Addr} {vs : Value} {n : Nat} {Q : Int × Int × Nat → Shared → Prop} (hs : s.heap.IsSliceOf sl .none .none vs) (ps : IsPart vs (some (-1))) (h : Q ((n : Int) - 1, -1, n) s) :
    wpAny (model prog w) A (Builtin.Slice.sliceApplied (.ref sl) (pure (n : Int))) Q E s := by
  obtain ⟨os, hos, _, hds⟩ := id hs
  unfold Builtin.Slice.sliceApplied Builtin.Slice.sliceFields
  refine wpAny_bind (wpAny_bind (wpAny_field hos hds (x := .none) rfl (wpAny_bind (wpAny_field hos hds (x := .none) rfl (wpAny_bind (wpAny_field hos hds (x := vs) rfl (wpAny_pure ?_)))))))
  refine wpAny_bind (HT.slicePart_ ps ?_)
  show wpAny _ _ (if ((-1 : Int) == 0) = true then _ else _) _ _ s
  rw [if_neg (by decide)]
  refine wpAny_bind (slicePart_none (wpAny_bind (slicePart_none (wpAny_bind (wpAny_pure ?_)))))
  show wpAny _ _ (pure ((n : Int) - 1, (-1 : Int), Builtin.Slice.slicePlaces ((n : Int) - 1) (-1) (-1))) _ _ s
  rw [back_places]
  exact wpAny_pure h
theorem getItem_tuple_back {t sl : Addr} {items : Array Value} {vs : Value} {Q : Value → Shared → Prop} (ht : IsTup s.heap t items) (hs : s.heap.IsSliceOf sl .none .none vs) (ps : IsPart vs (some (-1)))
    (h : Q (.ref s.heap.objs.size) { s with heap := s.heap.push { cls := .type "tuple", data := .seq items.toList.reverse.toArray } }) (hsz : items.size ≤ sizeLine) : wpAny (model prog w) A (getItem (.ref t) (.ref sl)) Q E s := by
  have hok : sizeOk (.seq items.toList.reverse.toArray) := by
    show items.toList.reverse.toArray.size ≤ sizeLine
    rw [List.size_toArray, List.length_reverse, Array.length_toList]
    exact hsz
  obtain ⟨os, hos, hcs, _⟩ := id hs
  have tySl : s.TypeIs (.ref sl) "slice" := ⟨os, hos, hcs⟩
  (unfold getItem); (try with_reducible refine wpAny_holding ?_); (first | refine wpAny_bind (wpAny_pure ?_) | skip)
  refine wpAny_bind (wpAny_sequenceKey ht.typeIs (by decide) (wpAny_bind (wpAny_callSpecial?_slot (name := Str.ofString "__getitem__") ht.typeIs PyProof.Rows.slot_tuple_getitem (wpAny_call_entry PyProof.Rows.slot_tuple_getitem ht.typeIs entry_tuple_getitem ?_ (args_tuple_getitem _ _)))))
  refine (show wpAny _ _ (Builtin.Tuple.tupleItemsOf (.ref t) >>= _) _ _ s from ?_)
  refine wpAny_bind (tupleItemsOf_ ht (wpAny_bind (wpAny_typeOf tySl ?_)))
  rw [if_pos (by decide)]
  refine wpAny_bind (back_applied (n := items.size) hs ps ?_)
  have no : ¬ ((((items.size : Int) - 1 == 0) && ((-1 : Int) == 1) && (items.size == items.size)) = true) := by
    rw [show ((-1 : Int) == 1) = false by decide, Bool.and_false, Bool.false_and]
    exact Bool.false_ne_true
  show wpAny _ _ (if (((items.size : Int) - 1 == 0) && ((-1 : Int) == 1) && (items.size == items.size)) = true then _ else _) _ _ s
  rw [if_neg no, back_pick]
  first
    | exact wpAny_bind (m := Builtin.Tuple.tupleExact _) (wpAny_newObj_type (wpAny_pure ⟨_, rfl, wpAny_pure h⟩) hok)
    | exact wpAny_bind (wpAny_bind (m := Builtin.Tuple.tupleExact _) (wpAny_newObj_type (wpAny_pure (wpAny_pure ⟨_, rfl, wpAny_pure h⟩)) hok))
    | exact wpAny_bind (m := Builtin.Tuple.tupleExact _) (wpAny_newObj_type (wpAny_bind (wpAny_pure (wpAny_pure ⟨_, rfl, wpAny_pure h⟩))) hok)
end
def tRevT (K : PySem.W.Frag) (te : TE) : TE := fun σ H Q => te σ H fun x H1 => ∃ a xs, x = .ref a ∧ SqT K H1 a xs ∧ ∀ p, H1 p = none → Q (.ref p) (upd H1 p (.tup xs.reverse))
section
variable {X : Cx}
theorem pe_revT {e : Expr} {te : TE} {k : Nat} {k1 k2 k3 pos : Pos} (he : PE X e te) : PE X (.Subscript e (.Slice none none (some (.UnaryOp .USub (.Constant (.int 1) k k1) k2)) k3) pos) (tRevT X.K te) := by
  refine ⟨fun pins s σ H Q I h => Subscript_ (thn (he.run pins s σ H _ I h) fun v u1 ⟨x, G1, J1, r1, q1⟩ => ?_)⟩
  obtain ⟨a, xs, rfl, hx, q⟩ := q1
  cases r1
  have hneg : PO X (some (.UnaryOp .USub (.Constant (.int 1) k k1) k2)) (tPart (tUn (rU fun i => .int (-i)) (tC (.int 1)))) := po_some (pe_un un_neg pe_int)
  refine wpAny_Slice (thn (po_none.run pins u1 σ G1 (fun o G2 => o = none ∧ G2 = G1) J1 ⟨rfl, rfl⟩) fun vl u2 ⟨l, G2, J2, pl, el, e2⟩ => ?_)
  subst el e2
  refine thn (po_none.run pins u2 σ G2 (fun o G3 => o = none ∧ G3 = G2) J2 ⟨rfl, rfl⟩) fun vu u3 ⟨u, G3, J3, pu, eu, e3⟩ => ?_
  subst eu e3
  refine thn (hneg.run pins u3 σ G3 (fun o G4 => o = some (-1) ∧ G4 = G3) J3 ⟨1, rfl, -1, rfl, rfl, rfl⟩) fun vs u4 ⟨o, G4, J4, ps, eo, e4⟩ => ?_
  subst eo e4
  cases pl
  cases pu
  have J5 : Inv X pins σ G4 { u4 with heap := u4.heap.push { cls := .type "slice", data := .fields #[.none, .none, vs] } } := J4.kept (t' := u4.toks) fun b ob q => Heap.get?_push_of_some _ q
  obtain ⟨its, r, ht, hz⟩ := J5.tuple hx
  have hlen := r.length
  refine tail_any (ops := [.ref a, .ref u4.heap.objs.size]) ht.typeIs PyProof.Rows.slot_tuple_getitem.lookup ?_ (by with_unfolding_all rfl)
  refine getItem_tuple_back ht (Heap.IsSliceOf.new _ .none .none vs) ps ?_ (by rw [List.size_toArray]; omega)
  refine ⟨.ref _, _, J5.laid (t' := u4.toks) (o := .tup xs.reverse) (fun b ob q => Heap.get?_push_of_some _ q) (Nat.le_refl _) ?_, rfl, q _ (J5.hok.fresh (Nat.le_refl _))⟩
  exact ⟨by rw [List.length_reverse]; exact hz, _, r.reverse, IsTup.new _ _⟩
end
end L2
/-! ### a tuple != () -/
namespace L2
open PySem PySem.Spec PyProof.Rows
def rNeTNil (K : PySem.W.Frag) : R2 := fun x y H Q => ∃ a b xs, x = .ref a ∧ y = .ref b ∧ SqT K H a xs ∧ SqT K H b [] ∧ Q (.bl !xs.isEmpty) H
section
variable {X : Cx}
theorem op_neTNil (hu : X.A.units + 64 < cLine) : OpR X (compareOp .NotEq) (rNeTNil X.K) := by
  intro pins s σ H x y v u Q I rx ry h
  obtain ⟨a, b, xs, rfl, rfl, ha, hb, q⟩ := h
  cases rx
  cases ry
  obtain ⟨its, r1, ⟨⟨cls, dd, data, sl⟩, ho, hc, n, hd⟩, hz1⟩ := I.tuple ha
  obtain ⟨its2, r2, ⟨⟨cls2, dd2, data2, sl2⟩, ho2, hc2, n2, hd2⟩, hz2⟩ := I.tuple hb
  simp only at hc hd hc2 hd2
  subst hc hd hc2 hd2
  cases r2
  have hl1 := r1.length
  have e := SeqAt.tuple_neAt a b its.toArray (#[] : Array Value) n n2 dd dd2 sl sl2 (fun _ => true)
  have er : (!((List.range (min its.toArray.size (#[] : Array Value).size)).all (fun _ => true) && its.toArray.size == (#[] : Array Value).size)) = !xs.isEmpty := by
    have h0 : min its.toArray.size (#[] : Array Value).size = 0 := Nat.min_zero _
    rw [h0, List.size_toArray, ← hl1]
    cases xs <;> rfl
  exact richCompare_meets_room (op := .NotEq) ⟨_, ho, rfl⟩ ⟨_, ho2, rfl⟩ F.slot_tuple_ne F.entry_tuple_ne (F.args_tuple_ne_2 _ _) e
    ⟨ho, ho2, fun j h1 h2 => absurd h2 (Nat.not_lt_zero _), show Value.bool _ ≠ Value.notImplemented ∧ _ from ⟨(fun x => nomatch x), .bl _, H, I, by rw [er]; rfl, q⟩⟩ (by omega)
end
end L2
set_option Elab.async false
set_option linter.all false
set_option maxRecDepth 100000
set_option maxHeartbeats 4000000
namespace K43
open PySem PySem.Spec PyProof.Rows L2 KD
open C8 (Cal Def cal0 pe_c fnBody fnScope fnArgs)

def topS (i : Nat) : Stmt := PySem.Challenge.pw_changewhile_k43_runs_begun.main.body.getD i (.Pass ⟨0, 0, 0, 0⟩)
/-- what the module's names hold that are no defs -/
structure Tp (mg : Str → Option Value) : Prop where
  n_isinstance : mg "isinstance" = none
  n_int : mg "int" = none
  n_bool : mg "bool" = none
  n_str : mg "str" = none
  n_tuple : mg "tuple" = none
  n_list : mg "list" = none
  n_dict : mg "dict" = none
  n_len : mg "len" = none
  n_range : mg "range" = none
  n_max : mg "max" = none
  n_min : mg "min" = none
  n_abs : mg "abs" = none
  n_all : mg "all" = none
  n_zip : mg "zip" = none
  n_sorted : mg "sorted" = none
  g_NUMBERS : ∃ u, mg "NUMBERS" = some u ∧ RelV (.int 1000000000000) u

/-! ### the pot: two numbers -/
def Pt (H : Hp) (p : Addr) : Prop := ∃ x y : Int, H p = some (.lst [.int x, .int y]) ∧ 0 ≤ x ∧ 0 ≤ y ∧ y < 1099511627776
/-- all but the pot stays, and the pot stays one -/
def Go (p : Addr) (H H' : Hp) : Prop := But p H H' ∧ Pt H' p
theorem Pt.ne {H : Hp} {p q : Addr} (h : Pt H p) (hq : H q = none) : q ≠ p := fun e => by
  obtain ⟨x, y, a, _⟩ := h
  subst e
  rw [a] at hq
  cases hq
theorem Pt.same {H H' : Hp} {p : Addr} (h : Pt H p) (e : Same H H') : Pt H' p := let ⟨x, y, a, r⟩ := h; ⟨x, y, e _ _ a, r⟩
theorem Pt.new {H : Hp} {p q : Addr} {o : HO} (h : Pt H p) (hq : H q = none) : Pt (upd H q o) p := h.same (Same.new hq)
theorem Go.refl {p : Addr} {H : Hp} (h : Pt H p) : Go p H H := ⟨But.refl p H, h⟩
theorem Go.trans {p : Addr} {H H1 H2 : Hp} (a : Go p H H1) (b : Go p H1 H2) : Go p H H2 := ⟨a.1.trans b.1, b.2⟩
theorem Go.new {p q : Addr} {H H1 : Hp} {o : HO} (a : Go p H H1) (hq : H1 q = none) : Go p H (upd H1 q o) := ⟨a.1.trans (But.new hq), a.2.new hq⟩
theorem Go.same {p : Addr} {H H1 H2 : Hp} (a : Go p H H1) (e : Same H1 H2) : Go p H H2 := ⟨a.1.trans (But.same e), a.2.same e⟩
theorem Go.ne {p q : Addr} {H H1 : Hp} (a : Go p H H1) (hq : H1 q = none) : q ≠ p := a.2.ne hq
theorem Go.put {p : Addr} {H H1 : Hp} {x y : Int} (a : But p H H1) (h0 : 0 ≤ x) (h1 : 0 ≤ y) (h2 : y < 1099511627776) : Go p H (upd H1 p (.lst [.int x, .int y])) := ⟨a.pot, x, y, upd_same, h0, h1, h2⟩
theorem Go.at {p b : Addr} {H H1 : Hp} {o : HO} (a : Go p H H1) (n : b ≠ p) (h : H b = some o) : H1 b = some o := a.1 b o n h
theorem Go.tups {p : Addr} {H H' : Hp} (hp : Pt H p) (g : Go p H H') : TupS H H' := fun b xs e => by
  obtain ⟨x, y, a, _⟩ := hp
  refine g.1 b _ (fun z => ?_) e
  rw [z, a] at e
  cases e
/-! ### arithmetic -/
theorem fmod_lo {a n : Int} (h : 0 < n) : 0 ≤ a.fmod n := by
  rw [Int.fmod_eq_emod_of_nonneg a (by omega)]
  exact Int.emod_nonneg a (by omega)
theorem fmod_hi {a n : Int} (h : 0 < n) : a.fmod n < n := by
  rw [Int.fmod_eq_emod_of_nonneg a (by omega)]
  exact Int.emod_lt_of_pos a h
theorem div_lo {a n : Int} (h : 0 < n) (ha : 0 ≤ a) : 0 ≤ a / n := Int.ediv_nonneg ha (by omega)
theorem small300 {n : Int} (h0 : 0 ≤ n) (h : n < 1000000) : n.natAbs < 2 ^ 300 := by
  have h1 : n.natAbs < 1000000 := by omega
  have h2 : (1000000 : Nat) ≤ 2 ^ 300 := Nat.le_trans (by decide : (1000000 : Nat) ≤ 2 ^ 20) (Nat.pow_le_pow_right (by decide) (by decide))
  exact Nat.lt_of_lt_of_le h1 h2
/-- one of a list, by an int within it -/
theorem pick {xs : List V} {r : Int} (h0 : 0 ≤ r) (h1 : r < (xs.length : Int)) : ∃ v ∈ xs, atI xs r = some v := by
  have e : r = (r.toNat : Int) := by omega
  have l : r.toNat < xs.length := by omega
  refine ⟨xs[r.toNat], List.getElem_mem l, ?_⟩
  have h : atI xs (r.toNat : Int) = some xs[r.toNat] := atI_nat (List.getElem?_eq_getElem l)
  rw [← e] at h
  exact h
theorem ne_new {H : Hp} {a b : Addr} {o : HO} (h : upd H a o b = none) : a ≠ b := fun z => by
  rw [← z, upd_same] at h
  cases h
theorem ne_some {H : Hp} {a b : Addr} {o : HO} (h : H a = some o) (hb : H b = none) : a ≠ b := fun z => by
  rw [z, hb] at h
  cases h
theorem ne_obj {H : Hp} {a b : Addr} {o o2 : HO} (h : H a = some o) (h2 : H b = some o2) (n : o ≠ o2) : a ≠ b := fun z => by
  rw [z, h2] at h
  exact n (Option.some.inj h).symm

section
variable {P : Program} {w : World} {K : PySem.W.Frag} {mg : Str → Option Value} {base : Heap}
/-! ### the drawing -/
abbrev sLTake : Stmt := topS 21
abbrev NLTake : List Str := ["_law_pot_here", "_law_many", "_law_digit"]
theorem scLTake : FnScope NLTake ["_law_pot_here", "_law_many"] (fnScope sLTake) := ⟨rfl, rfl, rfl, by decide +kernel, rfl, by decide +kernel, by decide +kernel⟩
def spTake : Sp := fun vs H Q _ => ∃ (p : Addr) (n : Int), vs = [.ref p, .int n] ∧ Pt H p ∧ 0 < n ∧ n.natAbs < 2 ^ 300 ∧ ∀ r H', 0 ≤ r → r < n → Go p H H' → Q (.int r) H'
theorem c_take {f : Addr} {fd : FuncData} (D : Def K mg "_law_take" sLTake f fd) (b : Binds K fd ["_law_pot_here", "_law_many"] []) : Cal P w K mg base 1 "_law_take" spTake [] := by
  refine cal0 D b .nil scLTake (fun vs H Q E h => ?_) (fun cdv A outer s H vs Q E hr h => ?_)
  · obtain ⟨p, n, rfl, _⟩ := h
    rfl
  · obtain ⟨p, n, rfl, ⟨x, y, hl, h0, h1, h2⟩, n0, n1, q⟩ := h
    have nd := scLTake.nd
    refine ⟨_, (pss_cons (ps_if (pt_cmpR op_gt (pe_ix ix_list (pv 0) pe_int (fun _ _ => rfl)) pe_int (nomark _))
      (pss_cons (ps_set (i := 2) nd rfl (.inl rfl) (pe_op op_modN (pe_ix ix_list (pv 0) pe_int (fun _ _ => rfl)) (pv 1)))
      (pss_cons (ps_asg (pe_op op_fdivW (pe_ix ix_list (pv 0) pe_int (fun _ _ => rfl)) (pv 1)) (pg_sub (pv 0) pe_int set_list))
      (pss_one (ps_ret (pv 2)))))
      pss_nil)
    (pss_cons (ps_asg (pe_op op_modN (pe_op op_add (pe_op op_mul (pe_ix ix_list (pv 0) pe_int (fun _ _ => rfl)) pe_int) pe_int) pe_int) (pg_sub (pv 0) pe_int set_list))
    (pss_one (ps_ret (pe_op op_modN (pe_op op_fdivW (pe_op op_modN (pe_op op_mul (pe_ix ix_list (pv 0) pe_int (fun _ _ => rfl)) (pe_ix ix_list (pv 0) pe_int (fun _ _ => rfl))) pe_int) pe_int) (pv 1)))))), ?_⟩
    refine ⟨_, rfl, _, _, _, _, rfl, rfl, SqL.of hl, atI_nat (j := 0) rfl, _, _, rfl, rfl, _, rfl, ite2 (fun e => ?_) (fun e => ?_)⟩
    · refine ⟨_, rfl, _, _, _, _, rfl, rfl, SqL.of hl, atI_nat (j := 0) rfl, _, rfl, _, _, rfl, rfl, (show n ≠ 0 by omega), ?_⟩
      refine ⟨_, rfl, _, _, _, _, rfl, rfl, SqL.of hl, atI_nat (j := 0) rfl, _, rfl, _, _, rfl, rfl, wide_div n0 n1 (by decide) (by decide), ?_⟩
      refine ⟨_, rfl, _, _, _, _, rfl, rfl, hl, rfl, ?_⟩
      refine ⟨_, rfl, ?_⟩
      exact q _ _ (fmod_lo n0) (fmod_hi n0) (Go.put (But.refl p H) (div_lo n0 h0) h1 h2)
    · refine ⟨_, rfl, _, _, _, _, rfl, rfl, SqL.of hl, atI_nat (j := 1) rfl, _, _, rfl, rfl, .inl ⟨by omega, by omega⟩, _, _, rfl, rfl, _, _, rfl, rfl, (by show (2147483629 : Int) ≠ 0; decide), ?_⟩
      refine ⟨_, rfl, _, _, _, _, rfl, rfl, hl, rfl, ?_⟩
      have b0 : 0 ≤ (y * 39373 + 7919).fmod 2147483629 := fmod_lo (by decide)
      have b1 : (y * 39373 + 7919).fmod 2147483629 < 2147483629 := fmod_hi (by decide)
      refine ⟨_, rfl, _, _, _, _, rfl, rfl, SqL.of upd_same, atI_nat (j := 1) rfl, _, rfl, _, _, _, _, rfl, rfl, SqL.of upd_same, atI_nat (j := 1) rfl, _, _, rfl, rfl, .inl ⟨by omega, by omega⟩, _, _, rfl, rfl, (by show (2147483563 : Int) ≠ 0; decide), _, _, rfl, rfl, wide_div (b := 64) (by decide) (by decide) (by decide) (by decide), _, rfl, _, _, rfl, rfl, (show n ≠ 0 by omega), ?_⟩
      exact q _ _ (fmod_lo n0) (fmod_hi n0) (Go.put (But.refl p H) h0 b0 (by omega))
abbrev sLPot : Stmt := topS 20
abbrev NLPot : List Str := ["_law_cell"]
theorem scLPot : FnScope NLPot ["_law_cell"] (fnScope sLPot) := ⟨rfl, rfl, rfl, by decide +kernel, rfl, by decide +kernel, by decide +kernel⟩
def spPot : Sp := fun vs H Q _ => ∃ (c : Int), vs = [.int c] ∧ ∀ p H', H p = none → Same H H' → Pt H' p → Q (.ref p) H'
theorem c_pot (T : Tp mg) {f : Addr} {fd : FuncData} (D : Def K mg "_law_pot" sLPot f fd) (b : Binds K fd ["_law_cell"] []) : Cal P w K mg base 1 "_law_pot" spPot [] := by
  refine cal0 D b .nil scLPot (fun vs H Q E h => ?_) (fun cdv A outer s H vs Q E hr h => ?_)
  · obtain ⟨c, rfl, _⟩ := h
    rfl
  · obtain ⟨c, rfl, q⟩ := h
    refine ⟨_, (pss_one (ps_ret (pe_lst (pa_cons (pe_op op_mul (pv 0) (pe_callTy call_int1 (by rfl) T.n_int (by decide +kernel) (pa_cons (pe_cmpR op_ge (pv 0) (pe_op op_pow pe_int pe_int) (nomark _)) pa_nil))) (pa_cons (pe_op op_modN (pe_op op_add (pe_op op_mul (pv 0) pe_int) pe_int) pe_int) pa_nil))))), ?_⟩
    refine ⟨_, rfl, _, rfl, _, _, rfl, rfl, (by show (0 : Int) ≤ 18 ∧ _; decide), _, _, rfl, rfl, .inr ⟨_, rfl, _, _, rfl, rfl, ?_, ?_⟩⟩
    · exact .inr ⟨by split <;> decide, by split <;> decide⟩
    · refine ⟨_, rfl, _, _, rfl, rfl, .inr ⟨by decide, by decide⟩, _, _, rfl, rfl, _, _, rfl, rfl, (by show (2147483647 : Int) ≠ 0; decide), (by show 2 ≤ sizeLine; decide), fun p hp => ?_⟩
      refine q p _ hp (Same.new hp) ⟨_, _, upd_same, ?_, fmod_lo (by decide), Int.lt_trans (fmod_hi (by decide)) (by decide)⟩
      by_cases c0 : (10 : Int) ^ (18 : Int).toNat ≤ c
      · rw [decide_eq_true c0]
        have e2 : (10 : Int) ^ (18 : Int).toNat = 1000000000000000000 := by decide
        show 0 ≤ c * 1
        omega
      · rw [decide_eq_false c0]
        show 0 ≤ c * 0
        omega
/-! ### a cell -/
abbrev sLNth : Stmt := topS 19
abbrev NLNth : List Str := ["_law_script", "_law_k"]
theorem scLNth : FnScope NLNth ["_law_script", "_law_k"] (fnScope sLNth) := ⟨rfl, rfl, rfl, by decide +kernel, rfl, by decide +kernel, by decide +kernel⟩
def spNth (K : PySem.W.Frag) : Sp := fun vs H Q _ => ∃ (a : Addr) (ns : List Int) (k : Nat), vs = [.ref a, .int k] ∧ SqL K H a (ns.map V.int) ∧ ∀ n, Q (.int n) H
theorem c_nth (T : Tp mg) {f : Addr} {fd : FuncData} (D : Def K mg "_law_nth" sLNth f fd) (b : Binds K fd ["_law_script", "_law_k"] []) : Cal P w K mg base 1 "_law_nth" (spNth K) [] := by
  refine cal0 D b .nil scLNth (fun vs H Q E h => ?_) (fun cdv A outer s H vs Q E hr h => ?_)
  · obtain ⟨a, ns, k, rfl, _⟩ := h
    rfl
  · obtain ⟨a, ns, k, rfl, hs, q⟩ := h
    refine ⟨_, (pss_one (ps_ret (pe_ifExp (pt_cmpR op_lt (pv 1) (pe_callB call_len_seq (by rfl) T.n_len (by decide +kernel) (pa_cons (pv 0) pa_nil)) (nomark _)) (pe_ix ix_list (pv 0) (pv 1) (fun _ _ => rfl)) pe_int))), ?_⟩
    refine ⟨_, rfl, _, rfl, _, _, rfl, .inl hs, _, _, rfl, rfl, _, rfl, ite2 (fun e => ?_) (fun e => ?_)⟩
    · have e1 : (k : Int) < ((ns.map V.int).length : Int) := of_decide_eq_true e
      have e2 : k < ns.length := by
        rw [List.length_map] at e1
        omega
      refine ⟨_, rfl, _, rfl, _, _, _, .int ns[k], rfl, rfl, hs, atI_nat (j := k) ?_, q _⟩
      rw [List.getElem?_map, List.getElem?_eq_getElem e2]
      rfl
    · exact q _
theorem iteT' {c : Bool} {A B : Prop} (e : c = true) (h : A) : if c = true then A else B := by
  subst e
  exact iteT h
theorem iteF' {c : Bool} {A B : Prop} (e : c = false) (h : B) : if c = true then A else B := by
  subst e
  exact iteF h
theorem cal_no {k : Nat} {x : Str} {st : Stmt} {f : Addr} {fd : FuncData} {ps : List Str} (sp : Sp) (h : ∀ vs H Q E, sp vs H Q E → False) (D : Def K mg x st f fd) (b : Binds K fd ps []) : Cal P w K mg base k x sp [] :=
  ⟨f, fd, ps, [], ⟨fun _ _ _ _ z => (h _ _ _ _ z).elim, fun _ _ _ _ _ _ _ _ _ _ _ _ _ z => (h _ _ _ _ z).elim⟩, D.mgf, D.kp, b, .nil⟩
theorem dec_vint {a b : Int} : decide (V.int a = V.int b) = decide (a = b) := by
  rw [Bool.eq_iff_iff, decide_eq_true_eq, decide_eq_true_eq]
  exact ⟨V.int.inj, congrArg _⟩
end
end K43
set_option Elab.async false
set_option linter.all false
set_option maxRecDepth 100000
set_option maxHeartbeats 4000000
namespace K43
open PySem PySem.Spec PyProof.Rows L2 KD
open C8 (Cal Def cal0 pe_c fnBody fnScope fnArgs)
/-- a letter of a ref: r, or a figure -/
def refc (c : Nat) : Bool := c == 114 || (decide (48 ≤ c) && decide (c ≤ 57))
def dgc (c : Nat) : Bool := decide (48 ≤ c) && decide (c ≤ 57)
def rfS (z : Str) : Bool := z.cps.toList.all refc
mutual
def vv : PyData → Bool
  | .int i => decide (0 ≤ i) && decide (i < 1000000000000)
  | .bool _ => true
  | .str z => rfS z
  | .tuple ds => vvs ds
  | _ => false
def vvs : List PyData → Bool
  | [] => true
  | x :: xs => vv x && vvs xs
end
def numB : PyData → Bool
  | .int i => decide (0 ≤ i) && decide (i < 1000000000000)
  | _ => false
theorem weightAll_app : ∀ (xs ys : List PyData), PyData.weightAll (xs ++ ys) = PyData.weightAll xs + PyData.weightAll ys
  | [], ys => by simp [PyData.weightAll]
  | x :: xs, ys => by
    rw [List.cons_append, PyData.weightAll, PyData.weightAll, weightAll_app xs ys]
    omega
theorem len_weightAll : ∀ xs : List PyData, xs.length ≤ PyData.weightAll xs
  | [] => Nat.zero_le _
  | x :: xs => by
    have := len_weightAll xs
    rw [PyData.weightAll, List.length_cons]
    omega
theorem split_last {α : Type} {l : List α} (h : l ≠ []) : ∃ i x, l = i ++ [x] := ⟨l.dropLast, l.getLast h, (List.dropLast_concat_getLast h).symm⟩
theorem weight_mem : ∀ {ds : List PyData} {d : PyData}, d ∈ ds → d.weight ≤ PyData.weightAll ds
  | x :: xs, d, h => by
    rw [PyData.weightAll]
    rcases List.mem_cons.mp h with rfl | h
    · omega
    · have := weight_mem h
      omega
theorem depth_mem : ∀ {ds : List PyData} {d : PyData}, d ∈ ds → d.depth ≤ PyData.depthAll ds
  | x :: xs, d, h => by
    rw [PyData.depthAll]
    rcases List.mem_cons.mp h with rfl | h
    · exact Nat.le_max_left _ _
    · exact Nat.le_trans (depth_mem h) (Nat.le_max_right _ _)
theorem take_succ {α : Type} {l : List α} {i : Nat} {x : α} (h : l[i]? = some x) : l.take (i + 1) = l.take i ++ [x] := by
  rw [List.take_add_one, h]
  rfl
theorem dpAll_split {K : PySem.W.Frag} {H : Hp} : ∀ {xs : List PyData} {vs : List V} {x : PyData}, DpAll K H vs (xs ++ [x]) → ∃ us v, vs = us ++ [v] ∧ DpAll K H us xs ∧ Dp K H v x
  | [], _, x, .cons h .nil => ⟨[], _, rfl, .nil, h⟩
  | y :: ys, _, x, .cons h t => by
    obtain ⟨us, v, rfl, g1, g2⟩ := dpAll_split t
    exact ⟨_ :: us, v, rfl, .cons h g1, g2⟩
theorem dp_at {K : PySem.W.Frag} {H : Hp} : ∀ {vs : List V} {ds : List PyData} {i : Nat} {v : V}, DpAll K H vs ds → vs[i]? = some v → ∃ d, ds[i]? = some d ∧ Dp K H v d
  | _, _, i, v, .nil, e => by simp at e
  | _, _, 0, v, .cons h t, e => by
    simp at e
    exact ⟨_, rfl, e ▸ h⟩
  | _, _, i + 1, v, .cons h t, e => by
    obtain ⟨d, h1, h2⟩ := dp_at (i := i) t (by simpa using e)
    exact ⟨d, by simpa using h1, h2⟩
section
variable {P : Program} {w : World} {K : PySem.W.Frag} {mg : Str → Option Value} {base : Heap}
/-- a look at data: a truth told, all stays -/
def spQ (K : PySem.W.Frag) (g : PyData → Bool) : Sp := fun vs H Q _ => ∃ v d, vs = [v] ∧ Dq K H v d ∧ d.weight ≤ 100000 ∧ ∀ H', Same H H' → Q (.bl (g d)) H'
abbrev sPIsNumber : Stmt := topS 10
abbrev NPIsNumber : List Str := ["thing"]
theorem scPIsNumber : FnScope NPIsNumber ["thing"] (fnScope sPIsNumber) := ⟨rfl, rfl, rfl, by decide +kernel, rfl, by decide +kernel, by decide +kernel⟩
theorem c_isNumber (T : Tp mg) {f : Addr} {fd : FuncData} (D : Def K mg "is_number" sPIsNumber f fd) (b : Binds K fd ["thing"] []) : Cal P w K mg base 1 "is_number" (spQ K numB) [] := by
  refine cal0 D b .nil scPIsNumber (fun vs H Q E h => ?_) (fun cdv A outer s H vs Q E hr h => ?_)
  · obtain ⟨v, d, rfl, _⟩ := h
    rfl
  · obtain ⟨v, d, rfl, hd, _, q⟩ := h
    refine ⟨_, (pss_one (ps_ret (pe_and (pe_callB call_isQ (by rfl) T.n_isinstance (by decide +kernel) (pa_cons (pv 0) (pa_cons (pe_bltn (v := .ty "int") (by rfl) T.n_int (by decide +kernel) rfl) pa_nil))) (pe_and (pe_not (pe_callB call_isQ (by rfl) T.n_isinstance (by decide +kernel) (pa_cons (pv 0) (pa_cons (pe_bltn (v := .ty "bool") (by rfl) T.n_bool (by decide +kernel) rfl) pa_nil)))) (pe_one (pe_chain op_le op_lt pe_int (pv 0) (C8.pe_gc (by rfl) T.g_NUMBERS))))))), ?_⟩
    have q0 := q H (Same.refl H)
    refine ⟨_, rfl, v, d, "int", rfl, hd, by decide, _, rfl, ?_⟩
    cases hd with
    | int i =>
      refine iteT ?_
      refine ⟨_, rfl, _, _, "bool", rfl, .int i, by decide, _, rfl, _, rfl, iteT ?_⟩
      refine ⟨_, rfl, _, _, rfl, rfl, _, rfl, ite2 (fun e => ?_) (fun e => ?_)⟩
      · refine ⟨_, _, rfl, rfl, ?_⟩
        have e1 : numB (.int i) = decide (i < 1000000000000) := by
          show (decide (0 ≤ i) && decide (i < 1000000000000)) = _
          rw [e, Bool.true_and]
        rw [e1] at q0
        exact q0
      · have e1 : numB (.int i) = false := by
          show (decide (0 ≤ i) && decide (i < 1000000000000)) = _
          rw [eq_false_of_ne_true e, Bool.false_and]
        rw [e1] at q0
        exact q0
    | bl bb =>
      refine iteT ?_
      exact ⟨_, rfl, _, _, "bool", rfl, .bl bb, by decide, _, rfl, _, rfl, iteF q0⟩
    | _ => exact iteF q0
end
mutual
def noL : PyData → Bool
  | .list _ => false
  | .dict _ => false
  | .tuple xs => noLs xs
  | _ => true
def noLs : List PyData → Bool
  | [] => true
  | x :: xs => noL x && noLs xs
end
theorem rd_hid {D a : Addr} {H : Hp} {ys xs : List V} (hD : H D = some (.lst ys)) (h : Rd H a (.tup xs)) : Rd (hid D H) a (.tup xs) := by
  rcases h with h | ⟨o, h⟩
  · have n : a ≠ D := fun e => by
      rw [e, hD] at h
      cases h
    exact .inl (by rw [hid_ne n]; exact h)
  · have n : a ≠ D := fun e => by
      rw [e, hD] at h
      cases h
    exact .inr ⟨o, by rw [hid_ne n]; exact h⟩
mutual
theorem dp_hid {K : PySem.W.Frag} {D : Addr} {H : Hp} {ys : List V} (hD : H D = some (.lst ys)) : ∀ {d : PyData} {v : V}, noL d = true → Dp K H v d → Dp K (hid D H) v d
  | .none, _, _, h => by cases h; exact .non
  | .bool b, _, _, h => by cases h; exact .bl b
  | .int i, _, _, h => by cases h; exact .int i
  | .str x, _, _, h => by cases h; exact .str x
  | .list _, _, n, _ => by simp [noL] at n
  | .dict _, _, n, _ => by simp [noL] at n
  | .tuple ds, _, n, h => by
    have n' : noLs ds = true := by simpa [noL] using n
    cases h with
    | tup hq ha => exact .tup (hq.elim (fun h => .inl (rd_hid hD h)) .inr) (dpAll_hid hD n' ha)
theorem dpAll_hid {K : PySem.W.Frag} {D : Addr} {H : Hp} {ys : List V} (hD : H D = some (.lst ys)) : ∀ {ds : List PyData} {vs : List V}, noLs ds = true → DpAll K H vs ds → DpAll K (hid D H) vs ds
  | [], _, _, h => by cases h; exact .nil
  | d :: ds, _, n, h => by
    have n' : noL d = true ∧ noLs ds = true := by simpa [noLs] using n
    cases h with
    | cons a b => exact .cons (dp_hid hD n'.1 a) (dpAll_hid hD n'.2 b)
end
theorem hid_upd {D : Addr} {H : Hp} {o : HO} : hid D (upd H D o) = hid D H := by
  funext b
  unfold hid upd
  by_cases h : b = D
  · rw [if_pos h, if_pos h]
  · rw [if_neg h, if_neg h, if_neg h]
theorem hid_same {p : Addr} {H H' : Hp} (e : Same H H') : Same (hid p H) (hid p H') := fun b o h => by
  obtain ⟨n, h⟩ := hid_some h
  rw [hid_ne n]
  exact e b o h
theorem hid_hid {p D : Addr} {H : Hp} : hid D (hid p H) = hid p (hid D H) := by
  funext b
  unfold hid
  by_cases h : b = D <;> by_cases h2 : b = p <;> simp [h, h2]
theorem hid2_but {p D : Addr} {H H' : Hp} (e : But p H H') : Same (hid p (hid D H)) (hid p (hid D H')) := fun b o h => by
  obtain ⟨n, h⟩ := hid_some h
  obtain ⟨n2, h⟩ := hid_some h
  rw [hid_ne n, hid_ne n2]
  exact e b o n h
theorem noLs_app : ∀ {xs ys : List PyData}, noLs xs = true → noLs ys = true → noLs (xs ++ ys) = true
  | [], _, _, h => h
  | x :: xs, _, h, h2 => by
    have h' : noL x = true ∧ noLs xs = true := by simpa [noLs] using h
    simp only [List.cons_append, noLs, h'.1, noLs_app h'.2 h2, Bool.and_self]

mutual
theorem nl_noL : ∀ {d : PyData}, noL d = true → nl d = true ∧ d.hasDict = false
  | .none, _ => ⟨rfl, rfl⟩
  | .bool _, _ => ⟨rfl, rfl⟩
  | .int _, _ => ⟨rfl, rfl⟩
  | .str _, _ => ⟨rfl, rfl⟩
  | .list _, h => by simp [noL] at h
  | .dict _, h => by simp [noL] at h
  | .tuple xs, h => by
    have := nls_noLs (ds := xs) (by simpa [noL] using h)
    exact ⟨by simpa [nl] using this.1, by simpa [PyData.hasDict] using this.2⟩
theorem nls_noLs : ∀ {ds : List PyData}, noLs ds = true → nls ds = true ∧ PyData.hasDictAll ds = false
  | [], _ => ⟨rfl, by simp [PyData.hasDictAll]⟩
  | x :: xs, h => by
    have h' : noL x = true ∧ noLs xs = true := by simpa [noLs] using h
    have a := nl_noL h'.1
    have b := nls_noLs h'.2
    exact ⟨by simp [nls, a.1, b.1], by simp [PyData.hasDictAll, a.2, b.2]⟩
end
def asc (z : Str) : Bool := z.cps.toList.all fun c => decide (c < 128)
theorem asc_of {z : Str} (h : asc z = true) : ∀ c ∈ z.cps.toList, c < 128 := fun c hc => of_decide_eq_true (List.all_eq_true.mp h c hc)
mutual
theorem vv_noL : ∀ {d : PyData}, vv d = true → noL d = true ∧ pureD d = true
  | .none, h => by simp [vv] at h
  | .bool _, _ => ⟨rfl, rfl⟩
  | .int _, _ => ⟨rfl, rfl⟩
  | .str _, _ => ⟨rfl, rfl⟩
  | .list _, h => by simp [vv] at h
  | .dict _, h => by simp [vv] at h
  | .tuple xs, h => by
    have := vvs_noLs (ds := xs) (by simpa [vv] using h)
    exact ⟨by simpa [noL] using this.1, by simpa [pureD] using this.2⟩
theorem vvs_noLs : ∀ {ds : List PyData}, vvs ds = true → noLs ds = true ∧ pureDs ds = true
  | [], _ => ⟨rfl, rfl⟩
  | x :: xs, h => by
    have h' : vv x = true ∧ vvs xs = true := by simpa [vvs] using h
    have a := vv_noL h'.1
    have b := vvs_noLs h'.2
    exact ⟨by simp [noLs, a.1, b.1], by simp [pureDs, a.2, b.2]⟩
end
theorem vvs_all : ∀ ds : List PyData, vvs ds = ds.all vv
  | [] => rfl
  | x :: xs => by simp [vvs, vvs_all xs]
theorem vvs_app {xs ys : List PyData} (h : vvs xs = true) (h2 : vvs ys = true) : vvs (xs ++ ys) = true := by
  rw [vvs_all] at *
  rw [List.all_append, h, h2]
  rfl
theorem vv_mem {ds : List PyData} {d : PyData} (h : vvs ds = true) (hm : d ∈ ds) : vv d = true := by
  rw [vvs_all] at h
  exact List.all_eq_true.mp h d hm
end K43
set_option Elab.async false
set_option linter.all false
set_option maxRecDepth 100000
set_option maxHeartbeats 4000000
namespace K43
open PySem PySem.Spec PyProof.Rows L2 KD
open C8 (Cal Def cal0 pe_c fnBody fnScope fnArgs)
inductive Kd where
  | num | tru | rcd (z : Str) | lst (k : Kd)
def Kd.d : Kd → PyData
  | .num => .tuple [.str "number"]
  | .tru => .tuple [.str "truth"]
  | .rcd z => .tuple [.str "record", .str z]
  | .lst k => .tuple [.str "list", k.d]
def Kd.ok : Kd → Prop
  | .num => True
  | .tru => True
  | .rcd z => asc z = true ∧ z.length ≤ 8
  | .lst k => k.ok
def Kd.deep : Kd → Nat
  | .lst k => k.deep + 1
  | _ => 0
def Kd.word : Kd → Str
  | .num => "number" | .tru => "truth" | .rcd _ => "record" | .lst _ => "list"
theorem kd_ok : ∀ {k : Kd}, k.ok → Ok (k.deep + 1) (20 + 10 * k.deep) k.d
  | .num, _ => (Ok.tup (n := 0) (m := 7) (OkAll.cons (a := 6) (b := 0) (.str (by decide) (asc_of (z := "number") (by decide +kernel))) .nil)).mono (by simp [Kd.deep]) (by simp [Kd.deep])
  | .tru, _ => (Ok.tup (n := 0) (m := 6) (OkAll.cons (a := 5) (b := 0) (.str (by decide) (asc_of (z := "truth") (by decide +kernel))) .nil)).mono (by simp [Kd.deep]) (by simp [Kd.deep])
  | .rcd z, h => (Ok.tup (n := 0) (OkAll.cons (a := 6) (.str (by decide) (asc_of (z := "record") (by decide +kernel))) (OkAll.cons (a := 8) (b := 0) (.str h.2 (asc_of h.1)) .nil))).mono (by simp [Kd.deep]) (by simp [Kd.deep])
  | .lst k, h => by
    have ih := kd_ok (k := k) h
    refine (Ok.tup (n := k.deep + 1) (OkAll.cons (a := 4) (.str (by decide) (asc_of (z := "list") (by decide +kernel))) (OkAll.cons (b := 0) ih .nil))).mono (Nat.le_refl _) ?_
    show 4 + 1 + (20 + 10 * k.deep + 1 + 0) ≤ 20 + 10 * (k.deep + 1)
    omega
theorem kd_pure : ∀ k : Kd, noL k.d = true ∧ pureD k.d = true
  | .num => ⟨rfl, rfl⟩
  | .tru => ⟨rfl, rfl⟩
  | .rcd _ => ⟨rfl, rfl⟩
  | .lst k => by
    have ih := kd_pure k
    exact ⟨by simp [Kd.d, noL, noLs, ih.1], by simp [Kd.d, pureD, pureDs, ih.2]⟩
section
variable {K : PySem.W.Frag}
theorem kd_at {H : Hp} {kv : V} {k : Kd} (h : Dp K H kv k.d) : ∃ a xs, kv = .ref a ∧ SqT K H a xs ∧ xs[0]? = some (.str k.word) := by
  cases k with
  | num => cases h with
    | @tup a xs _ hq ha => cases ha with
      | cons h1 h2 => cases h1; exact ⟨a, _, rfl, hq, rfl⟩
  | tru => cases h with
    | @tup a xs _ hq ha => cases ha with
      | cons h1 h2 => cases h1; exact ⟨a, _, rfl, hq, rfl⟩
  | rcd z => cases h with
    | @tup a xs _ hq ha => cases ha with
      | cons h1 h2 => cases h1; exact ⟨a, _, rfl, hq, rfl⟩
  | lst k => cases h with
    | @tup a xs _ hq ha => cases ha with
      | cons h1 h2 => cases h1; exact ⟨a, _, rfl, hq, rfl⟩
theorem kd_rcd {H : Hp} {kv : V} {z : Str} (h : Dp K H kv (Kd.rcd z).d) : ∃ a xs, kv = .ref a ∧ SqT K H a xs ∧ xs[0]? = some (.str "record") ∧ xs[1]? = some (.str z) := by
  cases h with
  | @tup a xs _ hq ha => cases ha with
    | cons h1 h2 =>
      cases h1
      cases h2 with
      | cons h3 h4 => cases h3; exact ⟨a, _, rfl, hq, rfl, rfl⟩
theorem kd_lst {H : Hp} {kv : V} {k : Kd} (h : Dp K H kv (Kd.lst k).d) : ∃ a xs v1, kv = .ref a ∧ SqT K H a xs ∧ xs[0]? = some (.str "list") ∧ xs[1]? = some v1 ∧ Dp K H v1 k.d := by
  cases h with
  | @tup a xs _ hq ha => cases ha with
    | cons h1 h2 =>
      cases h1
      cases h2 with
      | cons h3 h4 => exact ⟨a, _, _, rfl, hq, rfl, rfl, h3⟩
end
def intB : PyData → Bool
  | .int _ => true
  | _ => false
/-- whether data is of a kind, by the names of records -/
def isO (f : Str → Option Str) : Kd → PyData → Bool
  | .num => intB
  | .tru => isB
  | .rcd z => fun d => match d with | .str s => (f s == some z) | _ => false
  | .lst k => fun d => match d with | .tuple ds => ds.all (isO f k) | _ => false
theorem numB_int {d : PyData} (h : vv d = true) : numB d = intB d := by
  cases d <;> simp [vv] at h <;> simp [numB, intB, h]
def Rx (K : PySem.W.Frag) (H : Hp) (a : Addr) (f : Str → Option Str) : Prop := ∃ kvs : List (Key × V), H a = some (.dK kvs) ∧ ∀ z : Str, (valV kvs (Sum.inr z) = none ∧ f z = none) ∨ ∃ t n p, valV kvs (Sum.inr z) = some (.ref t) ∧ SqT K H t [.str n, p] ∧ f z = some n
theorem Rx.mono {K : PySem.W.Frag} {H H' : Hp} {a : Addr} {f : Str → Option Str} (e : Same H H') (h : Rx K H a f) : Rx K H' a f := by
  obtain ⟨kvs, h1, h2⟩ := h
  refine ⟨kvs, e _ _ h1, fun z => ?_⟩
  rcases h2 z with h | ⟨t, n, p, g1, g2, g3⟩
  · exact .inl h
  · exact .inr ⟨t, n, p, g1, sqT_mono e g2, g3⟩
theorem hid_new {p D : Addr} {H H' : Hp} (s : Same H H') (n : H D = none) : Same (hid p H) (hid p (hid D H')) := fun b o h => by
  obtain ⟨nb, hb⟩ := hid_some h
  rw [hid_ne nb, hid_ne (ne_of_none hb n)]
  exact s b o hb
theorem pair_of {K : PySem.W.Frag} {H : Hp} {v : V} {d e : PyData} (h : Dp K H v (.tuple [d, e])) : ∃ a x y, v = .ref a ∧ SqT K H a [x, y] ∧ Dp K H x d ∧ Dp K H y e := by
  cases h with
  | @tup a xs _ hq ha => cases ha with
    | cons h1 h2 => cases h2 with
      | cons h3 h4 => cases h4; exact ⟨a, _, _, rfl, hq, h1, h3⟩
theorem sqT_in {K : PySem.W.Frag} {p a : Addr} {H : Hp} {xs : List V} (h : SqT K (hid p H) a xs) : SqT K H a xs := sqT_mono hid_in h
def prK (q : Kd × PyData) : PyData := .tuple [q.1.d, q.2]
def wsum (ps : List (Kd × PyData)) : Nat := (ps.map fun q => q.2.weight + 1).sum
theorem wsum_app (a b : List (Kd × PyData)) : wsum (a ++ b) = wsum a + wsum b := by simp [wsum]
theorem wsum_len : ∀ a : List (Kd × PyData), a.length ≤ wsum a
  | [] => Nat.zero_le _
  | x :: xs => by
    have := wsum_len xs
    simp only [wsum, List.map_cons, List.sum_cons, List.length_cons] at this ⊢
    omega
theorem wsum_all (k : Kd) : ∀ ds : List PyData, wsum (ds.map fun d => (k, d)) = PyData.weightAll ds
  | [] => by simp [wsum, PyData.weightAll]
  | x :: xs => by
    have := wsum_all k xs
    simp only [wsum, List.map_cons, List.sum_cons, PyData.weightAll] at this ⊢
    omega
theorem kword_ne {k : Kd} (h : ∀ k', k ≠ .lst k') : (!decide (V.str k.word = V.str "list")) = true := by
  cases k with
  | num => decide +kernel
  | tru => decide +kernel
  | rcd z => show (!decide (V.str "record" = V.str "list")) = true; decide +kernel
  | lst k => exact absurd rfl (h k)
section
variable {P : Program} {w : World} {K : PySem.W.Frag} {mg : Str → Option Value} {base : Heap}
abbrev sPIsOfBare : Stmt := topS 12
abbrev NPIsOfBare : List Str := ["kind", "value", "records"]
theorem scPIsOfBare : FnScope NPIsOfBare ["kind", "value", "records"] (fnScope sPIsOfBare) := ⟨rfl, rfl, rfl, by decide +kernel, rfl, by decide +kernel, by decide +kernel⟩
def spBare (K : PySem.W.Frag) : Sp := fun vs H Q _ => ∃ kv k v d a f, vs = [kv, v, .ref a] ∧ Dp K H kv (Kd.d k) ∧ Dp K H v d ∧ vv d = true ∧ d.weight ≤ 100000 ∧ Rx K H a f ∧ (∀ k', k ≠ .lst k') ∧ ∀ H', Same H H' → Q (.bl (isO f k d)) H'
theorem c_isOfBare (T : Tp mg) (c_PIsNumber : Cal P w K mg base 1 "is_number" (spQ K numB) []) {f : Addr} {fd : FuncData} (D : Def K mg "_is_of_bare" sPIsOfBare f fd) (b : Binds K fd ["kind", "value", "records"] []) : Cal P w K mg base 2 "_is_of_bare" (spBare K) [] := by
  refine cal0 D b .nil scPIsOfBare (fun vs H Q E h => ?_) (fun cdv A outer s H vs Q E hr h => ?_)
  · obtain ⟨kv, k, v, d, a, f, rfl, _⟩ := h
    rfl
  · obtain ⟨kv, k, v, d, a, f, rfl, hk, hd, hv, hw, hx, hb, q⟩ := h
    refine ⟨_, (pss_cons (ps_if (pt_cmpR op_eq (pe_ix ix_tup (pv 0) pe_int (fun _ _ => rfl)) pe_str (nomark _))
      (pss_one (ps_ret (pe_c c_PIsNumber hr (by decide) (by rfl) (pa_cons (pv 1) pa_nil))))
      pss_nil)
    (pss_cons (ps_if (pt_cmpR op_eq (pe_ix ix_tup (pv 0) pe_int (fun _ _ => rfl)) pe_str (nomark _))
      (pss_one (ps_ret (pe_callB call_isQ (by rfl) T.n_isinstance (by decide +kernel) (pa_cons (pv 1) (pa_cons (pe_bltn (v := .ty "bool") (by rfl) T.n_bool (by decide +kernel) rfl) pa_nil)))))
      pss_nil)
    (pss_one (ps_ret (pe_and (pe_callB call_isQ (by rfl) T.n_isinstance (by decide +kernel) (pa_cons (pv 1) (pa_cons (pe_bltn (v := .ty "str") (by rfl) T.n_str (by decide +kernel) rfl) pa_nil))) (pe_and (pe_cmp (pc_din (hu_of hr) (pv 1) (pv 2)) rfl) (pe_one (pe_cmpR op_eq (pe_ix ix_tup (pe_dget (hu_of hr) (pv 2) (pv 1) (fun _ _ => rfl)) pe_int (fun _ _ => rfl)) (pe_ix ix_tup (pv 0) pe_int (fun _ _ => rfl)) (nomark _))))))))), ?_⟩
    have q0 := q H (Same.refl H)
    cases k with
    | num =>
      obtain ⟨ka, kxs, rfl, kq, k0⟩ := kd_at hk
      refine ⟨_, rfl, ka, kxs, 0, _, rfl, rfl, kq, atI_nat (j := 0) k0, rfl, _, rfl, iteT' (decide_eq_true rfl) ?_⟩
      exact ⟨_, rfl, v, d, rfl, Dp.q hd, hw, fun H' s => by have := q H' s; rwa [show isO f .num d = numB d from (numB_int hv).symm] at this⟩
    | tru =>
      obtain ⟨ka, kxs, rfl, kq, k0⟩ := kd_at hk
      refine ⟨_, rfl, ka, kxs, 0, _, rfl, rfl, kq, atI_nat (j := 0) k0, rfl, _, rfl, iteF' (decide_eq_false (by decide +kernel)) ?_⟩
      refine ⟨_, rfl, ka, kxs, 0, _, rfl, rfl, kq, atI_nat (j := 0) k0, rfl, _, rfl, iteT' (decide_eq_true rfl) ?_⟩
      exact ⟨_, rfl, v, d, "bool", rfl, Dp.q hd, by decide, q0⟩
    | rcd z =>
      obtain ⟨ka, kxs, rfl, kq, k0, k1⟩ := kd_rcd hk
      refine ⟨_, rfl, ka, kxs, 0, _, rfl, rfl, kq, atI_nat (j := 0) k0, rfl, _, rfl, iteF' (decide_eq_false (by decide +kernel)) ?_⟩
      refine ⟨_, rfl, ka, kxs, 0, _, rfl, rfl, kq, atI_nat (j := 0) k0, rfl, _, rfl, iteF' (decide_eq_false (by decide +kernel)) ?_⟩
      refine ⟨_, rfl, v, d, "str", rfl, Dp.q hd, by decide, _, rfl, ?_⟩
      cases hd with
      | str s =>
        refine iteT ?_
        obtain ⟨kvs, hkv, hz⟩ := hx
        rcases hz s with ⟨h1, h2⟩ | ⟨t, n, p, h1, h2, h3⟩
        · refine ⟨_, rfl, _, rfl, a, _, rfl, DGet.k (k := Sum.inr s) hkv, _, rfl, iteF' (by rw [h1]; rfl) ?_⟩
          have e : isO f (.rcd z) (.str s) = false := by show (f s == some z) = false; rw [h2]; rfl
          rw [e] at q0
          exact q0
        · refine ⟨_, rfl, _, rfl, a, _, rfl, DGet.k (k := Sum.inr s) hkv, _, rfl, iteT' (by rw [h1]; rfl) ?_⟩
          have g := DGet.k (k := (Sum.inr s : Key)) hkv
          rw [h1] at g
          refine ⟨_, rfl, _, rfl, a, _, rfl, g, t, _, 0, .str n, rfl, rfl, h2, atI_nat (j := 0) rfl, _, rfl, ka, kxs, 1, .str z, rfl, rfl, kq, atI_nat (j := 1) k1, rfl, ?_⟩
          have e : isO f (.rcd z) (.str s) = decide (V.str n = V.str z) := by
            show (f s == some z) = _
            rw [h3, Bool.eq_iff_iff, decide_eq_true_eq, beq_iff_eq]
            exact ⟨fun h => by rw [Option.some.inj h], fun h => by rw [V.str.inj h]⟩
          rw [e] at q0
          exact q0
      | _ => exact iteF q0
    | lst k => exact absurd rfl (hb k)
abbrev sPIsOf : Stmt := topS 11
abbrev NPIsOf : List Str := ["kind", "value", "records", "todo", "wanted", "one", "part"]
theorem scPIsOf : FnScope NPIsOf ["kind", "value", "records"] (fnScope sPIsOf) := ⟨rfl, rfl, rfl, by decide +kernel, rfl, by decide +kernel, by decide +kernel⟩
def spIsOf (K : PySem.W.Frag) : Sp := fun vs H Q _ => ∃ kv k v d a f, vs = [kv, v, .ref a] ∧ Dp K H kv (Kd.d k) ∧ Dp K H v d ∧ vv d = true ∧ d.weight ≤ 100000 ∧ Rx K H a f ∧ ∀ H', Same H H' → Q (.bl (isO f k d)) H'
def StO (K : PySem.W.Frag) (H : Hp) (f : Str → Option Str) (kv v : V) (a lt : Addr) (tot : Bool) (m : Nat) (σ : L2.St) (H1 : Hp) : Prop :=
  ∃ (vs : List V) (ps : List (Kd × PyData)) (o4 o5 o6 : Option V), σ = [some kv, some v, some (.ref a), some (.ref lt), o4, o5, o6] ∧ H1 lt = some (.lst vs) ∧ DpAll K (hid lt H1) vs (ps.map prK) ∧ (∀ q ∈ ps, vv q.2 = true) ∧ ps.all (fun q => isO f q.1 q.2) = tot ∧ Same H H1 ∧ wsum ps ≤ 100001 ∧ m = wsum ps
theorem c_isOf (T : Tp mg) (c_PIsOfBare : Cal P w K mg base 2 "_is_of_bare" (spBare K) []) {f : Addr} {fd : FuncData} (D : Def K mg "is_of" sPIsOf f fd) (b : Binds K fd ["kind", "value", "records"] []) : Cal P w K mg base 3 "is_of" (spIsOf K) [] := by
  refine cal0 D b .nil scPIsOf (fun vs H Q E h => ?_) (fun cdv A outer s H vs Q E hr h => ?_)
  · obtain ⟨kv, k, v, d, a, f, rfl, _⟩ := h
    rfl
  · obtain ⟨kv, k, v, d, a, f, rfl, hk, hd, hv, hw, hx, q⟩ := h
    have nd := scPIsOf.nd
    refine ⟨_, (pss_cons (ps_set (i := 3) nd rfl (.inl rfl) (pe_lst (pa_cons (pe_tup (pa_cons (pv 0) (pa_cons (pv 1) pa_nil))) pa_nil)))
    (pss_cons (ps_while PassesOwn.never (pt_truth (pv 3) (by intro _; rfl))
      (pss_cons (ps_asg (pe_bm0 PySem.F.plainAttrs_list PySem.F.slot_list_pop PySem.F.type_list_pop mt_pop (pv 3)) (pg_tup rfl (pgs_cons (pg_name (i := 4) nd rfl (.inr rfl)) (pgs_cons (pg_name (i := 5) nd rfl (.inl rfl)) pgs_nil))))
    (pss_one (ps_if (pt_cmpR op_ne (pe_ix ix_tup (pv 4) pe_int (fun _ _ => rfl)) pe_str (nomark _))
      (pss_one (ps_if (pt_not (pt_val (pe_c c_PIsOfBare hr (by decide) (by rfl) (pa_cons (pv 4) (pa_cons (pv 5) (pa_cons (pv 2) pa_nil))))))
      (pss_one (ps_ret pe_bl))
      pss_nil))
      (pss_one (ps_if (pt_val (pe_callB call_isQ (by rfl) T.n_isinstance (by decide +kernel) (pa_cons (pv 5) (pa_cons (pe_bltn (v := .ty "tuple") (by rfl) T.n_tuple (by decide +kernel) rfl) pa_nil))))
      (pss_one (ps_expr (pe_bm PySem.F.plainAttrs_list PySem.F.slot_list_extend PySem.F.type_list_extend mt_extend (pv 3) (pa_cons (pe_lc (own := [("part", 6)]) (g := gName 6) (by rfl) nd (pi_tup (pv 5)) (blkOk_by (own := [("part", 6)]) (N := NPIsOf) (sc := fnScope sPIsOf) (by decide +kernel)) (fun _ _ _ _ _ => pg_name (i := 6) nd rfl (Or.inl rfl)) (fun _ _ _ _ _ => pts_nil) (fun _ _ _ _ _ => (pe_tup (pa_cons (pe_ix (r := rIxT K) ix_tup (pv 4) pe_int (fun _ _ => rfl)) (pa_cons (pv 6) pa_nil))))) pa_nil))))
      (pss_one (ps_ret pe_bl))))))))
    (pss_one (ps_ret pe_bl)))), ?_⟩
    have line := sizeLine_eq
    refine ⟨_, rfl, _, rfl, (by show 2 ≤ sizeLine; decide), fun t0 ht0 => ⟨(by show 1 ≤ sizeLine; decide), fun lt hlt => ?_⟩⟩
    have s1 := (Same.new (o := .tup [kv, v]) ht0).trans (Same.new (o := .lst [.ref t0]) hlt)
    have hlt0 : H lt = none := (Same.new (o := .tup [kv, v]) ht0).free hlt
    have nt : t0 ≠ lt := fun e => by rw [← e, upd_same] at hlt; cases hlt
    have D0 : Dp K (hid lt (upd (upd H t0 (.tup [kv, v])) lt (.lst [.ref t0]))) (.ref t0) (prK (k, d)) := by
      rw [hid_upd]
      have hs : Same H (hid lt (upd H t0 (.tup [kv, v]))) := fun b o hb => by
        rw [hid_ne (ne_of_none hb hlt0), upd_ne (ne_of_none hb ht0)]
        exact hb
      exact .tup (.inl (.inl (by rw [hid_ne nt, upd_same]))) (.cons (Dp.mono hs hk) (.cons (Dp.mono hs hd) .nil))
    refine ⟨StO K H f kv v a lt (isO f k d), ⟨_, [.ref t0], [(k, d)], none, none, none, rfl, upd_same, .cons D0 .nil, (fun q h => by simp at h; subst h; exact hv), by simp, s1, by simp [wsum]; omega, rfl⟩, ?_⟩
    rintro m σ H1 ⟨vs, ps, o4, o5, o6, rfl, hat, hD, hvv, hall, hS, hle, rfl⟩
    refine ⟨_, rfl, !vs.isEmpty, .inl ⟨vs, SqL.of hat, rfl⟩, ?_⟩
    by_cases hp : ps = []
    · subst hp
      cases hD
      refine iteF ?_
      have q1 := q H1 hS
      rw [← hall] at q1
      exact q1
    · obtain ⟨pi, ⟨k1, d1⟩, rfl⟩ := split_last hp
      rw [List.map_append] at hD
      obtain ⟨us, vx, rfl, hDi, hDx⟩ := dpAll_split hD
      refine iteT' (by simp) ?_
      have hd1 : vv d1 = true := hvv (k1, d1) (by simp)
      have hw1 : wsum (pi ++ [(k1, d1)]) = wsum pi + (d1.weight + 1) := by simp [wsum]
      rw [hw1] at hle
      have hil := wsum_len pi
      have hul : us.length = pi.length := by rw [hDi.len, List.length_map]
      rw [List.all_append] at hall
      simp only [List.all_cons, List.all_nil, Bool.and_true] at hall
      have hvi : ∀ q ∈ pi, vv q.2 = true := fun q h => hvv q (List.mem_append_left _ h)
      refine ⟨fun σ' H' => ∃ m', m' < _ ∧ StO K H f kv v a lt (isO f k d) m' σ' H', fun σ' H' h => h, ?_⟩
      refine ⟨_, rfl, .inl ⟨rfl, _, SqL.of hat⟩, lt, _, vx, rfl, rfl, hat, by simp, ?_⟩
      rw [List.dropLast_concat]
      have hS2 : Same H (upd H1 lt (.lst us)) := fun b o hb => by
        rw [upd_ne (ne_of_none hb hlt0)]
        exact hS b o hb
      have hh : hid lt (upd H1 lt (.lst us)) = hid lt H1 := hid_upd
      rw [← hh] at hDi hDx
      generalize hH2 : upd H1 lt (.lst us) = H2 at *
      have hat2 : H2 lt = some (.lst us) := by rw [← hH2]; exact upd_same
      obtain ⟨ta, x, y, rfl, hq, hx1, hy1⟩ := pair_of hDx
      refine ⟨ta, _, rfl, sqT_in hq, rfl, x, _, rfl, y, _, rfl, rfl, ?_⟩
      have fin : ∀ {H3 : Hp} {o6 : Option V}, Same H2 H3 → isO f k1 d1 = true → ∃ m', m' < wsum (pi ++ [(k1, d1)]) ∧ StO K H f kv v a lt (isO f k d) m' [some kv, some v, some (.ref a), some (.ref lt), some x, some y, o6] H3 := fun s3 e => by
        refine ⟨_, ?_, us, pi, _, _, _, rfl, s3 _ _ hat2, DpAll.mono (hid_same s3) hDi, hvi, ?_, hS2.trans s3, by omega, rfl⟩
        · rw [hw1]; omega
        · rw [← hall, e, Bool.and_true]
      have bad : ∀ {H3 : Hp}, Same H2 H3 → isO f k1 d1 = false → Q (.bl false) H3 := fun {H3} s3 e => by
        have q1 := q H3 (hS2.trans s3)
        rw [← hall, e, Bool.and_false] at q1
        exact q1
      by_cases hkl : ∃ k2, k1 = .lst k2
      · obtain ⟨k2, rfl⟩ := hkl
        obtain ⟨ka, kxs, v1, rfl, kq, k0, k1', Dk⟩ := kd_lst hx1
        refine ⟨_, rfl, ka, kxs, 0, _, rfl, rfl, sqT_in kq, atI_nat (j := 0) k0, rfl, _, rfl, iteF' (by decide +kernel) ?_⟩
        refine ⟨_, rfl, y, d1, "tuple", rfl, Dp.q hy1.un, by decide, _, rfl, ?_⟩
        cases hy1 with
        | @tup b xs ds hqy hay =>
          refine iteT ?_
          have hdv : vvs ds = true := by simpa [vv] using hd1
          have hlen := hay.len
          have hwd : (PyData.tuple ds).weight = PyData.weightAll ds := by simp [PyData.weight]
          have hdl := len_weightAll ds
          refine ⟨_, rfl, .inl ⟨rfl, _, SqL.of hat2⟩, _, rfl, b, rfl, ⟨xs, sqT_in hqy⟩, fun Dl hDl => ?_⟩
          have nDl : Dl ≠ lt := fun e => by rw [e, hat2] at hDl; cases hDl
          refine lc_tup (xs := xs) (fun i H' => ∃ acc, H' Dl = some (.lst acc) ∧ acc.length = i ∧ Same H2 H' ∧ DpAll K (hid lt (hid Dl H')) acc ((ds.take i).map fun d => prK (k2, d))) ⟨[], upd_same, rfl, Same.new hDl, .nil⟩ (fun i H' hi h => ?_) (fun i x' H' hx' hW => ?_) (fun H' hW => ?_)
          · obtain ⟨acc, h1, h2, h3, h4⟩ := h
            exact sqT_mono h3 (sqT_in hqy)
          · obtain ⟨acc, h1, h2, h3, h4⟩ := hW
            obtain ⟨di, hdi, Ddi⟩ := dp_at hay hx'
            have hil2 : i < ds.length := (List.getElem?_eq_some_iff.mp hdi).1
            refine ⟨rfl, ?_⟩
            unfold tYes; dsimp only
            rw [if_pos rfl]
            refine ⟨_, rfl, ka, kxs, 1, v1, rfl, rfl, sqT_mono h3 (sqT_in kq), atI_nat (j := 1) k1', _, rfl, (by show 2 ≤ sizeLine; decide), fun t ht => ?_⟩
            have ntD : t ≠ Dl := fun e => by rw [e, h1] at ht; cases ht
            have ntl : t ≠ lt := fun e => by rw [e, h3 _ _ hat2] at ht; cases ht
            have s4 : Same H' (upd H' t (.tup [v1, x'])) := Same.new ht
            have hn := hid_new (p := lt) (h3.trans s4) hDl
            refine ⟨acc, s4 _ _ h1, by omega, acc ++ [.ref t], upd_same, by rw [List.length_append, h2]; rfl, ?_, ?_⟩
            · intro b' o hb
              rw [upd_ne (ne_of_none hb hDl)]
              exact (h3.trans s4) b' o hb
            · rw [hid_upd, take_succ hdi, List.map_append]
              refine (DpAll.mono (hid_same (hid_same s4)) h4).app (.cons ?_ .nil)
              exact .tup (.inl (.inl (by rw [hid_ne ntl, hid_ne ntD, upd_same]))) (.cons (Dk.mono hn) (.cons (Ddi.mono hn) .nil))
          · obtain ⟨acc, h1, h2, h3, h4⟩ := hW
            rw [List.take_of_length_le (by omega)] at h4
            have hat3 := h3 _ _ hat2
            have hal : acc.length = ds.length := by rw [h4.len, List.length_map]
            have hdle : PyData.weightAll ds ≤ 100000 := by omega
            refine ⟨lt, Dl, us, acc, rfl, rfl, hat3, h1, by omega, ?_⟩
            refine ⟨_, ?_, us ++ acc, pi ++ ds.map (fun d => (k2, d)), _, _, _, rfl, upd_same, ?_, ?_, ?_, ?_, ?_, rfl⟩
            · rw [hw1, wsum_app, wsum_all]; omega
            · rw [hid_upd, List.map_append, List.map_map]
              exact (DpAll.mono (hid_same h3) hDi).app (DpAll.mono (hid_same hid_in) h4)
            · intro q hq
              rcases List.mem_append.mp hq with hq | hq
              · exact hvi q hq
              · obtain ⟨d', hd', rfl⟩ := List.mem_map.mp hq
                exact vv_mem hdv hd'
            · rw [List.all_append, List.all_map, ← hall]
              rfl
            · intro b' o hb
              rw [upd_ne (ne_of_none hb hlt0)]
              exact (hS2.trans h3) b' o hb
            · rw [wsum_app, wsum_all]; omega
        | non => simp [vv] at hd1
        | bl _ => exact iteF (bad (Same.refl _) rfl)
        | int _ => exact iteF (bad (Same.refl _) rfl)
        | str _ => exact iteF (bad (Same.refl _) rfl)
        | lst _ _ => simp [vv] at hd1
      · have hb : ∀ k', k1 ≠ .lst k' := fun k' e => hkl ⟨k', e⟩
        obtain ⟨ka, kxs, rfl, kq, k0⟩ := kd_at hx1
        refine ⟨_, rfl, ka, kxs, 0, _, rfl, rfl, sqT_in kq, atI_nat (j := 0) k0, rfl, _, rfl, iteT' (kword_ne hb) ?_⟩
        refine ⟨_, rfl, _, rfl, _, rfl, _, k1, y, d1, a, f, rfl, hx1.un, hy1.un, hd1, by omega, hx.mono hS2, hb, fun H3 s3 => ⟨_, rfl, ?_⟩⟩
        cases hg : isO f k1 d1 with
        | true => exact iteF (fin s3 hg)
        | false => exact iteT (bad s3 hg)
/-! ### kinds, as data of tuples -/
theorem tk_word {H : Hp} {kv : V} {k : Kd} (h : Td H kv k.d) : ∃ a xs, kv = .ref a ∧ H a = some (.tup xs) ∧ xs[0]? = some (.str k.word) := by
  cases k with
  | num => cases h with
    | @tup a xs _ hq ha => cases ha with
      | cons h1 h2 => cases h1; exact ⟨a, _, rfl, hq, rfl⟩
  | tru => cases h with
    | @tup a xs _ hq ha => cases ha with
      | cons h1 h2 => cases h1; exact ⟨a, _, rfl, hq, rfl⟩
  | rcd z => cases h with
    | @tup a xs _ hq ha => cases ha with
      | cons h1 h2 => cases h1; exact ⟨a, _, rfl, hq, rfl⟩
  | lst k => cases h with
    | @tup a xs _ hq ha => cases ha with
      | cons h1 h2 => cases h1; exact ⟨a, _, rfl, hq, rfl⟩
theorem tk_lst {H : Hp} {kv : V} {k : Kd} (h : Td H kv (Kd.lst k).d) : ∃ a v1, kv = .ref a ∧ H a = some (.tup [.str "list", v1]) ∧ Td H v1 k.d := by
  cases h with
  | @tup a xs _ hq ha => cases ha with
    | cons h1 h2 =>
      cases h1
      cases h2 with
      | cons h3 h4 => cases h4; exact ⟨a, _, rfl, hq, h3⟩
/-- of a kind, where there are no records -/
abbrev isK : Kd → PyData → Bool := isO fun _ => none
end
end K43
set_option Elab.async false
set_option linter.all false
set_option maxRecDepth 100000
set_option maxHeartbeats 2000000
namespace K43
open PySem PySem.Spec PyProof.Rows L2 KD
open C8 (Cal Def cal0 pe_c fnBody fnScope fnArgs)
section
variable {P : Program} {w : World} {K : PySem.W.Frag} {mg : Str → Option Value} {base : Heap}
/-! ### kinds drawn -/
abbrev sLKind : Stmt := topS 23
abbrev NLKind : List Str := ["_law_pot_here", "_law_deep", "_law_way"]
theorem scLKind : FnScope NLKind ["_law_pot_here", "_law_deep"] (fnScope sLKind) := ⟨rfl, rfl, rfl, by decide +kernel, rfl, by decide +kernel, by decide +kernel⟩
def spKind (n : Nat) : Sp := fun vs H Q _ => ∃ (p : Addr) (m : Nat), vs = [.ref p, .int m] ∧ m < n ∧ Pt H p ∧ ∀ v (k : Kd) H', k.ok → k.deep ≤ m → Td H' v k.d → Go p H H' → Q v H'
theorem c_kind (T : Tp mg) (c_LTake : Cal P w K mg base 1 "_law_take" spTake []) {f : Addr} {fd : FuncData} (D : Def K mg "_law_kind" sLKind f fd) (b : Binds K fd ["_law_pot_here", "_law_deep"] []) :
    ∀ n : Nat, Cal P w K mg base (2 + n) "_law_kind" (spKind n) []
  | 0 => cal_no _ (fun vs H Q E ⟨p, m, _, h, _⟩ => absurd h (Nat.not_lt_zero _)) D b
  | n + 1 => by
    have c_LKind := c_kind T c_LTake D b n
    refine cal0 D b .nil scLKind (fun vs H Q E h => ?_) (fun cdv A outer s H vs Q E hr h => ?_)
    · obtain ⟨p, m, rfl, _⟩ := h
      rfl
    · obtain ⟨p, m, rfl, hm, hp, q⟩ := h
      have nd := scLKind.nd
      have hr := (show Room (2 + n) _ from hr)
      refine ⟨_, (pss_cons (ps_set (i := 2) nd rfl (.inl rfl) (pe_c c_LTake hr (by omega) (by rfl) (pa_cons (pv 0) (pa_cons pe_int pa_nil))))
    (pss_cons (ps_if (pt_cmpR op_eq (pv 2) pe_int (nomark _))
      (pss_one (ps_ret (pe_tup (pa_cons pe_str pa_nil))))
      pss_nil)
    (pss_cons (ps_if (PW.pt (pw_and (pt_cmpR op_eq (pv 2) pe_int (nomark _)) (pw_and1 (pt_cmpR op_eq (pe_c c_LTake hr (by omega) (by rfl) (pa_cons (pv 0) (pa_cons pe_int pa_nil))) pe_int (nomark _)))))
      (pss_one (ps_ret (pe_tup (pa_cons pe_str (pa_cons (pe_ix ix_list (pe_lst (pa_cons pe_str (pa_cons pe_str pa_nil))) (pe_c c_LTake hr (by omega) (by rfl) (pa_cons (pv 0) (pa_cons pe_int pa_nil))) (fun _ _ => rfl)) pa_nil)))))
      pss_nil)
    (pss_cons (ps_if (PW.pt (pw_and (pt_cmpR op_gt (pv 2) pe_int (nomark _)) (pw_and1 (pt_cmpR op_gt (pv 1) pe_int (nomark _)))))
      (pss_one (ps_ret (pe_tup (pa_cons pe_str (pa_cons (pe_c c_LKind hr (by omega) (by rfl) (pa_cons (pv 0) (pa_cons (pe_op op_sub (pv 1) pe_int) pa_nil))) pa_nil)))))
      pss_nil)
    (pss_one (ps_ret (pe_tup (pa_cons pe_str pa_nil)))))))), ?_⟩
      refine ⟨_, rfl, p, 5, rfl, hp, by decide, by decide, fun r H1 r0 r1 g1 => ?_⟩
      refine ⟨_, rfl, rfl, _, rfl, ite2 (fun e => ?_) (fun e => ?_)⟩
      · refine ⟨(by show 1 ≤ sizeLine; decide), fun t ht => ?_⟩
        exact q _ .tru _ True.intro (Nat.zero_le _) (.newT ht (.cons (.str _) .nil)) (g1.new ht)
      · refine (fun (els : ∀ H', Go p H H' → _) => ⟨_, rfl, rfl, _, rfl, ite2 (fun e1 => ⟨_, rfl, p, 4, rfl, g1.2, by decide, by decide, fun r2 H2 r20 r21 g2 => ⟨rfl, _, rfl, ite2 (fun e2 => ?_) (fun e2 => els H2 (g1.trans g2))⟩⟩) (fun e1 => iteF (els H1 g1))⟩) (fun H' g => ?_)
        · refine ⟨_, rfl, _, _, rfl, rfl, _, rfl, ite2 (fun e => ?_) (fun e => ?_)⟩
          · refine ⟨_, rfl, _, _, rfl, rfl, _, rfl, ite2 (fun e2 => ?_) (fun e2 => ?_)⟩
            · have m0 : (0 : Int) < m := of_decide_eq_true e2
              refine ⟨_, rfl, _, rfl, _, _, rfl, rfl, p, m - 1, ?_, by omega, g.2, fun v k H2 hk hd hD g2 => ?_⟩
              · show [V.ref p, V.int ((m : Int) - 1)] = _
                rw [show ((m - 1 : Nat) : Int) = (m : Int) - 1 by omega]
              · refine ⟨(by show 2 ≤ sizeLine; decide), fun t ht => ?_⟩
                exact q _ (.lst k) _ hk (by show k.deep + 1 ≤ m; omega) (.newT ht (.cons (.str _) (.cons hD .nil))) ((g.trans g2).new ht)
            · refine ⟨(by show 1 ≤ sizeLine; decide), fun t ht => ?_⟩
              exact q _ .num _ True.intro (Nat.zero_le _) (.newT ht (.cons (.str _) .nil)) (g.new ht)
          · show (if (false : Bool) = true then _ else _)
            refine iteF ⟨(by show 1 ≤ sizeLine; decide), fun t ht => ?_⟩
            exact q _ .num _ True.intro (Nat.zero_le _) (.newT ht (.cons (.str _) .nil)) (g.new ht)
        · refine ⟨(by show 2 ≤ sizeLine; decide), fun l hl => ?_⟩
          have g3 := (g1.trans g2).new (o := .lst [.str "k", .str "gone"]) hl
          refine ⟨_, rfl, p, 2, rfl, g3.2, by decide, by decide, fun r3 H3 r30 r31 g4 => ?_⟩
          have nl := (g1.trans g2).ne hl
          obtain ⟨z, hz, okz⟩ : ∃ z, atI [V.str "k", .str "gone"] r3 = some (.str z) ∧ (Kd.rcd z).ok := by
            have hc : r3 = 0 ∨ r3 = 1 := by omega
            rcases hc with rfl | rfl
            · exact ⟨_, atI_nat (j := 0) rfl, by decide +kernel, by decide⟩
            · exact ⟨_, atI_nat (j := 1) rfl, by decide +kernel, by decide⟩
          refine ⟨l, _, r3, .str z, rfl, rfl, SqL.of (g4.at nl upd_same), hz, (by show 2 ≤ sizeLine; decide), fun t ht => ?_⟩
          exact q _ (.rcd z) _ okz (Nat.zero_le _) (.newT ht (.cons (.str _) (.cons (.str _) .nil))) ((g3.trans g4).new ht)
end
end K43
set_option Elab.async false
set_option linter.all false
set_option maxRecDepth 100000
set_option maxHeartbeats 2000000
namespace K43
open PySem PySem.Spec PyProof.Rows L2 KD
open C8 (Cal Def cal0 pe_c fnBody fnScope fnArgs)
section
variable {K : PySem.W.Frag}
theorem lcR {p : Addr} {H : Hp} {n k : Nat} {te : TE} {σ : L2.St} {R9 : Addr → Hp → Prop} (T : Hp → V → Prop) (mono : ∀ {H H' : Hp} {v : V}, TupS H H' → T H v → T H' v) (hp : Pt H p) (hn : n ≤ 1000)
    (hstep : ∀ (i : Nat) (H' : Hp) (Q' : VK), i < n → Go p H H' → (∀ v H'', Go p H' H'' → T H'' v → Q' v H'') → te ((wipe σ [k]).set k (some (.int (0 + (i : Int))))) H' Q')
    (hd : ∀ D H' vs, D ≠ p → H D = none → H' D = some (.lst vs) → vs.length = n → (∀ v ∈ vs, T H' v) → Go p H H' → R9 D H') :
    ∀ D, H D = none → ∃ W : Nat → Nat → Hp → Prop, (∃ m, W 0 m (upd H D (.lst []))) ∧ ∀ i m H, W i m H →
      ((Itr 0 n).stop i H ∧ R9 D H) ∨ ((Itr 0 n).go i H ∧ ∃ Nx : Hp → Prop, (∀ H', Nx H' → ∃ m', m' < m ∧ W (i + 1) m' H') ∧ ∀ x H', (Itr 0 n).yld i H x H' → gName k x (wipe σ [k]) H' fun σ2 H2 => wipe σ2 [k] = wipe σ [k] ∧ tYes σ2 H2 fun b H3 =>
        if b = true then te σ2 H3 fun y H4 => ∃ acc, H4 D = some (.lst acc) ∧ acc.length < sizeLine ∧ Nx (upd H4 D (.lst (acc ++ [y]))) else Nx H3) := by
  intro D hD
  have nD := hp.ne hD
  refine lc_range (lo := 0) (n := n) (fun i H' => ∃ vs, H' D = some (.lst vs) ∧ vs.length = i ∧ (∀ v ∈ vs, T H' v) ∧ Go p H H')
    ⟨[], upd_same, rfl, (fun v hv => nomatch hv), But.new hD, hp.new hD⟩ (fun i H' hi hW => ?_) (fun H' hW => ?_)
  · obtain ⟨vs, hat, hl, hT, g⟩ := hW
    refine ⟨?_, ?_⟩
    · show ((wipe σ [k]).set k (some (.int (0 + (i : Int))))).set k none = wipe σ [k]
      rw [List.set_set]
      show ((σ.set k none).set k none) = σ.set k none
      rw [List.set_set]
    · unfold tYes; dsimp only
      rw [if_pos rfl]
      refine hstep i H' _ hi g fun v H2 g2 tv => ?_
      have hat2 : H2 D = some (.lst vs) := g2.1 _ _ nD hat
      refine ⟨vs, hat2, by rw [hl, sizeLine_eq]; omega, vs ++ [v], upd_same, by rw [List.length_append, hl]; rfl, fun u hu => ?_, ?_⟩
      · rcases List.mem_append.mp hu with hu | hu
        · exact mono (TupS.put hat2) (mono (g2.tups g.2) (hT u hu))
        · rw [List.mem_singleton.mp hu]
          exact mono (TupS.put hat2) tv
      · refine ⟨fun b o nb hb => ?_, ?_⟩
        · rw [upd_ne (fun z => by rw [z, hD] at hb; cases hb)]
          exact g2.1 b o nb (g.1 b o nb hb)
        · obtain ⟨x, y, a, r⟩ := g2.2
          exact ⟨x, y, by rw [upd_ne nD.symm]; exact a, r⟩
  · obtain ⟨vs, hat, hl, hT, g⟩ := hW
    exact hd D H' vs nD hD hat hl hT g
end
def wv : Nat → Nat
  | 0 => 70
  | k + 1 => 3 * (wv k + 1)
theorem wv_ge : ∀ m, 70 ≤ wv m
  | 0 => Nat.le_refl _
  | k + 1 => by
    have := wv_ge k
    show 70 ≤ 3 * (wv k + 1)
    omega
theorem wv_mono : ∀ {m n : Nat}, m ≤ n → wv m ≤ wv n
  | m, 0, h => by rw [Nat.le_zero.mp h]; exact Nat.le_refl _
  | m, n + 1, h => by
    rcases Nat.lt_or_ge n m with c | c
    · rw [show m = n + 1 by omega]; exact Nat.le_refl _
    · have := wv_mono c
      show wv m ≤ 3 * (wv n + 1)
      omega
/-- a value: small, plain -/
def Vd (n m : Nat) (H : Hp) (v : V) : Prop := ∃ d, Td H v d ∧ vv d = true ∧ Ok n m d
theorem Vd.mono {n m : Nat} {H H' : Hp} {v : V} (e : TupS H H') (h : Vd n m H v) : Vd n m H' v := let ⟨d, h1, h2⟩ := h; ⟨d, h1.mono e, h2⟩
theorem all_vd {n m : Nat} {H : Hp} : ∀ {vs : List V}, (∀ v ∈ vs, Vd n m H v) → ∃ ds, TdAll H vs ds ∧ vvs ds = true ∧ OkAll n (vs.length * (m + 1)) ds
  | [], _ => ⟨[], .nil, rfl, .nil⟩
  | v :: vs, h => by
    obtain ⟨ds, h1, h2, h3⟩ := all_vd (vs := vs) fun u hu => h u (List.mem_cons_of_mem _ hu)
    obtain ⟨d, g1, g2, g3⟩ := h v List.mem_cons_self
    refine ⟨d :: ds, .cons g1 h1, by simp [vvs, g2, h2], (OkAll.cons g3 h3).mono (Nat.le_refl _) ?_⟩
    rw [List.length_cons, Nat.succ_mul]
    omega
theorem tdAll_at {H : Hp} : ∀ {vs : List V} {ds : List PyData} {i : Nat} {v : V}, TdAll H vs ds → vs[i]? = some v → ∃ d, ds[i]? = some d ∧ Td H v d
  | _, _, i, v, .nil, e => by simp at e
  | _, _, 0, v, .cons h t, e => by
    simp at e
    exact ⟨_, rfl, e ▸ h⟩
  | _, _, i + 1, v, .cons h t, e => by
    obtain ⟨d, h1, h2⟩ := tdAll_at (i := i) t (by simpa using e)
    exact ⟨d, by simpa using h1, h2⟩
section
variable {P : Program} {w : World} {K : PySem.W.Frag} {mg : Str → Option Value} {base : Heap}
/-! ### values drawn -/
abbrev sLPlain : Stmt := topS 24
abbrev NLPlain : List Str := ["_law_pot_here", "_law_kind_here", "_law_many", "_law_k"]
theorem scLPlain : FnScope NLPlain ["_law_pot_here", "_law_kind_here"] (fnScope sLPlain) := ⟨rfl, rfl, rfl, by decide +kernel, rfl, by decide +kernel, by decide +kernel⟩
def spPlain (n : Nat) : Sp := fun vs H Q _ => ∃ (p : Addr) (kv : V) (k : Kd), vs = [.ref p, kv] ∧ Td H kv k.d ∧ k.deep < n ∧ Pt H p ∧ ∀ v d H', Td H' v d → vv d = true → Ok k.deep (wv k.deep) d → Go p H H' → Q v H'
theorem c_plain (T : Tp mg) (c_LTake : Cal P w K mg base 1 "_law_take" spTake []) {f : Addr} {fd : FuncData} (D : Def K mg "_law_plain" sLPlain f fd) (b : Binds K fd ["_law_pot_here", "_law_kind_here"] []) :
    ∀ n : Nat, Cal P w K mg base (2 + n) "_law_plain" (spPlain n) []
  | 0 => cal_no _ (fun vs H Q E ⟨p, kv, k, _, _, h, _⟩ => absurd h (Nat.not_lt_zero _)) D b
  | n + 1 => by
    have c_LPlain := c_plain T c_LTake D b n
    refine cal0 D b .nil scLPlain (fun vs H Q E h => ?_) (fun cdv A outer s H vs Q E hr h => ?_)
    · obtain ⟨p, kv, k, rfl, _⟩ := h
      rfl
    · obtain ⟨p, kv, k, rfl, hk, hm, hp, q⟩ := h
      have nd := scLPlain.nd
      have hr := (show Room (2 + n) _ from hr)
      refine ⟨_, (pss_cons (ps_if (pt_cmpR op_eq (pe_ix ix_tup (pv 1) pe_int (fun _ _ => rfl)) pe_str (nomark _))
      (pss_one (ps_ret (pe_ix ix_list (pe_lst (pa_cons (pe_c c_LTake hr (by omega) (by rfl) (pa_cons (pv 0) (pa_cons pe_int pa_nil))) (pa_cons (pe_c c_LTake hr (by omega) (by rfl) (pa_cons (pv 0) (pa_cons (pe_op op_pow pe_int pe_int) pa_nil))) (pa_cons (pe_op op_sub (pe_op op_pow pe_int pe_int) pe_int) pa_nil)))) (pe_c c_LTake hr (by omega) (by rfl) (pa_cons (pv 0) (pa_cons pe_int pa_nil))) (fun _ _ => rfl))))
      pss_nil)
    (pss_cons (ps_if (pt_cmpR op_eq (pe_ix ix_tup (pv 1) pe_int (fun _ _ => rfl)) pe_str (nomark _))
      (pss_one (ps_ret (pe_cmpR op_eq (pe_c c_LTake hr (by omega) (by rfl) (pa_cons (pv 0) (pa_cons pe_int pa_nil))) pe_int (nomark _))))
      pss_nil)
    (pss_cons (ps_if (pt_cmpR op_eq (pe_ix ix_tup (pv 1) pe_int (fun _ _ => rfl)) pe_str (nomark _))
      (pss_one (ps_ret pe_str))
      pss_nil)
    (pss_cons (ps_set (i := 2) nd rfl (.inl rfl) (pe_op op_mul (pe_c c_LTake hr (by omega) (by rfl) (pa_cons (pv 0) (pa_cons pe_int pa_nil))) (pe_callTy call_int1 (by rfl) T.n_int (by decide +kernel) (pa_cons (pe_cmpR op_ne (pe_ix ix_tup (pe_ix ix_tup (pv 1) pe_int (fun _ _ => rfl)) pe_int (fun _ _ => rfl)) pe_str (nomark _)) pa_nil))))
    (pss_one (ps_ret (pe_callTy call_tuple_of (by rfl) T.n_tuple (by decide +kernel) (pa_cons (pe_lc (own := [("_law_k", 3)]) (g := gName 3) (by rfl) nd (pi_range1 (by rfl) T.n_range (pa_cons (pv 2) pa_nil)) (blkOk_by (own := [("_law_k", 3)]) (N := NLPlain) (sc := fnScope sLPlain) (by decide +kernel)) (fun _ _ _ _ _ => pg_name (i := 3) nd rfl (Or.inl rfl)) (fun _ _ _ _ _ => pts_nil) (fun _ _ _ _ _ => (pe_c c_LPlain hr (Nat.le_refl _) (by rfl) (pa_cons (pv 0) (pa_cons (pe_ix (r := rIxT K) ix_tup (pv 1) pe_int (fun _ _ => rfl)) pa_nil))))) pa_nil)))))))), ?_⟩
      obtain ⟨a, xs, rfl, ha, h0⟩ := tk_word hk
      have hge := wv_ge k.deep
      refine ⟨_, rfl, a, xs, 0, _, rfl, rfl, SqT.of ha, atI_nat (j := 0) h0, rfl, _, rfl, ?_⟩
      cases k with
      | num =>
        refine iteT' (by decide +kernel) ?_
        refine ⟨_, rfl, p, 3, rfl, hp, by decide, by decide, fun ra H1 ra0 ra1 g1 => ?_⟩
        refine ⟨_, rfl, _, _, rfl, rfl, (by show (0 : Int) ≤ 12 ∧ _; decide), p, _, rfl, g1.2, (by decide), (by decide), fun rb H2 rb0 rb1 g2 => ?_⟩
        refine ⟨_, _, rfl, rfl, (by show (0 : Int) ≤ 12 ∧ _; decide), _, _, rfl, rfl, (by show 3 ≤ sizeLine; decide), fun l hl => ?_⟩
        have g3 := (g1.trans g2).new (o := .lst [.int ra, .int rb, .int ((10 : Int) ^ (12 : Int).toNat - 1)]) hl
        have nl := (g1.trans g2).ne hl
        refine ⟨_, rfl, p, 3, rfl, g3.2, by decide, by decide, fun rc H4 rc0 rc1 g4 => ?_⟩
        have e12 : (10 : Int) ^ (12 : Int).toNat = 1000000000000 := by decide
        rw [e12] at rb1
        obtain ⟨i, hi, hi0, hi1⟩ : ∃ i : Int, atI [V.int ra, .int rb, .int ((10 : Int) ^ (12 : Int).toNat - 1)] rc = some (.int i) ∧ 0 ≤ i ∧ i < 1000000000000 := by
          have hc : rc = 0 ∨ rc = 1 ∨ rc = 2 := by omega
          rcases hc with rfl | rfl | rfl
          · exact ⟨ra, atI_nat (j := 0) rfl, ra0, by omega⟩
          · exact ⟨rb, atI_nat (j := 1) rfl, rb0, rb1⟩
          · exact ⟨_, atI_nat (j := 2) rfl, by rw [e12]; decide, by rw [e12]; decide⟩
        exact ⟨l, _, rc, .int i, rfl, rfl, SqL.of (g4.at nl upd_same), hi, q _ (.int i) _ (.int i) (by simp [vv, hi0, hi1]) (.num (by omega) (by omega) (by omega)) (g3.trans g4)⟩
      | tru =>
        refine iteF' (by decide +kernel) ?_
        refine ⟨_, rfl, a, xs, 0, _, rfl, rfl, SqT.of ha, atI_nat (j := 0) h0, rfl, _, rfl, iteT' (by decide +kernel) ?_⟩
        exact ⟨_, rfl, p, 2, rfl, hp, by decide, by decide, fun ra H1 ra0 ra1 g1 => ⟨rfl, q _ (.bool _) _ (.bl _) rfl (.bool _) g1⟩⟩
      | rcd z =>
        refine iteF' (by show decide (V.str "record" = V.str "number") = false; decide +kernel) ?_
        refine ⟨_, rfl, a, xs, 0, _, rfl, rfl, SqT.of ha, atI_nat (j := 0) h0, rfl, _, rfl, iteF' (by show decide (V.str "record" = V.str "truth") = false; decide +kernel) ?_⟩
        refine ⟨_, rfl, a, xs, 0, _, rfl, rfl, SqT.of ha, atI_nat (j := 0) h0, rfl, _, rfl, iteT' (by show decide (V.str "record" = V.str "record") = true; decide +kernel) ?_⟩
        exact q _ (.str "r0") _ (.str _) (by decide +kernel) (.str (by have : (("r0" : Str)).length = 2 := (by decide +kernel); omega) (asc_of (by decide +kernel))) (Go.refl hp)
      | lst k1 =>
        refine iteF' (by show decide (V.str "list" = V.str "number") = false; decide +kernel) ?_
        refine ⟨_, rfl, a, xs, 0, _, rfl, rfl, SqT.of ha, atI_nat (j := 0) h0, rfl, _, rfl, iteF' (by show decide (V.str "list" = V.str "truth") = false; decide +kernel) ?_⟩
        refine ⟨_, rfl, a, xs, 0, _, rfl, rfl, SqT.of ha, atI_nat (j := 0) h0, rfl, _, rfl, iteF' (by show decide (V.str "list" = V.str "record") = false; decide +kernel) ?_⟩
        obtain ⟨a', v1, ea, hl, hk1⟩ := tk_lst hk
        cases ea
        obtain ⟨a1, xs1, rfl, ha1, h01⟩ := tk_word hk1
        refine ⟨_, rfl, p, 4, rfl, hp, by decide, by decide, fun c H1 c0 c1 g1 => ?_⟩
        have tu1 := g1.tups hp
        refine ⟨_, rfl, a, _, 1, .ref a1, rfl, rfl, SqT.of (tu1 _ _ hl), atI_nat (j := 1) rfl, a1, xs1, 0, _, rfl, rfl, SqT.of (tu1 _ _ ha1), atI_nat (j := 0) h01, rfl, .inr ⟨_, rfl, ?_⟩⟩
        obtain ⟨c', hc', e⟩ : ∃ c' : Int, (0 ≤ c' ∧ c' ≤ 3) ∧ (c * if (!decide (V.str k1.word = V.str "record")) = true then 1 else 0) = c' := by
          refine ⟨_, ?_, rfl⟩
          cases (!decide (V.str k1.word = V.str "record"))
          · show 0 ≤ c * 0 ∧ c * 0 ≤ 3; omega
          · show 0 ≤ c * 1 ∧ c * 1 ≤ 3; omega
        refine ⟨_, _, rfl, rfl, .inl ⟨by omega, by omega⟩, ?_⟩
        have hk2 := hk1.mono tu1
        refine ⟨_, rfl, _, rfl, (by rw [e]; omega), (by rw [e]; omega), ?_⟩
        rw [e]
        have hdeep : k1.deep < n := by have : k1.deep + 1 < n + 1 := hm; omega
        refine lcR (n := c'.toNat) (σ := [some (.ref p), some (.ref a), some (.int (c * if (!decide (V.str k1.word = V.str "record")) = true then 1 else 0)), none]) (k := 3) (Vd k1.deep (wv k1.deep)) (fun e h => h.mono e) g1.2 (by omega) (fun i H2 Q' hi g2 q2 => ?_) (fun Dl H2 vs nD hD hat hl2 hT g2 => ?_)
        · have tu2 := g2.tups g1.2
          exact ⟨_, rfl, _, rfl, a, _, 1, .ref a1, rfl, rfl, SqT.of (tu2 _ _ (tu1 _ _ hl)), atI_nat (j := 1) rfl, p, .ref a1, k1, rfl, hk2.mono tu2, hdeep, g2.2, fun v d H3 h1 h2 h3 g => q2 v H3 g ⟨d, h1, h2, h3⟩⟩
        · refine ⟨Dl, vs, rfl, .inl ⟨SqL.of hat, fun t ht => ?_⟩⟩
          obtain ⟨ds, d1, d2, d3⟩ := all_vd hT
          have hle : vs.length * (wv k1.deep + 1) ≤ wv (k1.deep + 1) := by
            show _ ≤ 3 * (wv k1.deep + 1)
            rw [hl2]
            exact Nat.mul_le_mul_right _ (by omega)
          exact q _ (.tuple ds) _ (.newT ht d1) (by simpa [vv] using d2) ((Ok.tup d3).mono (Nat.le_refl _) hle) ((g1.trans g2).new ht)
end
end K43
set_option Elab.async false
set_option linter.all false
set_option maxRecDepth 100000
set_option maxHeartbeats 2000000
namespace K43
open PySem PySem.Spec PyProof.Rows L2 KD
open C8 (Cal Def cal0 pe_c fnBody fnScope fnArgs)
theorem refc_lt {c : Nat} (h : refc c = true) : c < 128 := by
  unfold refc at h
  simp only [Bool.or_eq_true, Bool.and_eq_true, beq_iff_eq, decide_eq_true_eq] at h
  omega
mutual
theorem vv_lay : ∀ {d : PyData}, vv d = true → d.canLay0 = true
  | .none, h => by simp [vv] at h
  | .bool _, _ => rfl
  | .int _, _ => rfl
  | .str z, h => by
    have h' : rfS z = true := by simpa [vv] using h
    simp only [PyData.canLay0, PyData.strOk]
    rw [← Array.all_toList, List.all_eq_true]
    intro c hc
    have := refc_lt (List.all_eq_true.mp h' c hc)
    exact decide_eq_true (by omega)
  | .list _, h => by simp [vv] at h
  | .dict _, h => by simp [vv] at h
  | .tuple xs, h => by
    have := vvs_lay (ds := xs) (by simpa [vv] using h)
    simpa [PyData.canLay0] using this
theorem vvs_lay : ∀ {ds : List PyData}, vvs ds = true → PyData.canLayAll0 ds = true
  | [], _ => rfl
  | x :: xs, h => by
    have h' : vv x = true ∧ vvs xs = true := by simpa [vvs] using h
    simp [PyData.canLayAll0, vv_lay h'.1, vvs_lay h'.2]
end
theorem vv_shaped {d : PyData} (h : vv d = true) (n : d.depth ≤ 64) : SeqAt.shaped d = true := by
  show (d.canLay0 && decide (d.depth ≤ 64)) = true
  rw [vv_lay h, decide_eq_true n]
  rfl
section
variable {K : PySem.W.Frag}
/-- the looks at the things of a tuple, in a comprehension -/
theorem lcB {a : Addr} {xs : List V} {ds : List PyData} {H : Hp} {k : Nat} {te : TE} {σ : L2.St} {R9 : Addr → Hp → Prop} (g : PyData → Bool) (ha : H a = some (.tup xs)) (hd : TdAll H xs ds) (hn : ds.length ≤ 100000)
    (hstep : ∀ (i : Nat) (v : V) (d : PyData) (H' : Hp) (Q' : VK), ds[i]? = some d → Td H' v d → Same H H' → (∀ H'', Same H' H'' → Q' (.bl (g d)) H'') → te ((wipe σ [k]).set k (some v)) H' Q')
    (hq : ∀ D H', H D = none → H' D = some (.lst ((ds.map g).map V.bl)) → Same H H' → R9 D H') :
    ∀ D, H D = none → ∃ W : Nat → Nat → Hp → Prop, (∃ m, W 0 m (upd H D (.lst []))) ∧ ∀ i m H, W i m H →
      ((Itt K a).stop i H ∧ R9 D H) ∨ ((Itt K a).go i H ∧ ∃ Nx : Hp → Prop, (∀ H', Nx H' → ∃ m', m' < m ∧ W (i + 1) m' H') ∧ ∀ x H', (Itt K a).yld i H x H' → gName k x (wipe σ [k]) H' fun σ2 H2 => wipe σ2 [k] = wipe σ [k] ∧ tYes σ2 H2 fun b H3 =>
        if b = true then te σ2 H3 fun y H4 => ∃ acc, H4 D = some (.lst acc) ∧ acc.length < sizeLine ∧ Nx (upd H4 D (.lst (acc ++ [y]))) else Nx H3) := by
  intro D hD
  have hl := hd.len
  refine lc_tup (K := K) (a := a) (xs := xs) (fun i H' => H' D = some (.lst (((ds.take i).map g).map V.bl)) ∧ Same H H')
    ⟨upd_same, Same.new hD⟩ (fun i H' _ hW => SqT.of (hW.2 _ _ ha)) (fun i x H' hx hW => ?_) (fun H' hW => ?_)
  · obtain ⟨hat, sm⟩ := hW
    refine ⟨?_, ?_⟩
    · show ((wipe σ [k]).set k (some x)).set k none = wipe σ [k]
      rw [List.set_set]
      show ((σ.set k none).set k none) = σ.set k none
      rw [List.set_set]
    · unfold tYes; dsimp only
      rw [if_pos rfl]
      obtain ⟨d, hd1, hd2⟩ := tdAll_at hd hx
      refine hstep i x d H' _ hd1 (hd2.mono (TupS.same sm)) sm fun H2 s2 => ?_
      refine ⟨_, s2 _ _ hat, ?_, ?_, fun b o hb => ?_⟩
      · rw [List.length_map, List.length_map, List.length_take, sizeLine_eq]
        omega
      · rw [List.take_succ, hd1, List.map_append, List.map_append]
        exact upd_same
      · rw [upd_ne (fun z => by rw [z, hD] at hb; cases hb)]
        exact s2 _ _ (sm _ _ hb)
  · obtain ⟨hat, sm⟩ := hW
    rw [hl, List.take_of_length_le (Nat.le_refl _)] at hat
    exact hq D H' hD hat sm
theorem all_id (g : PyData → Bool) (ds : List PyData) : (ds.map g).all id = ds.all g := by
  rw [List.all_map]
  rfl
theorem walk_zipT {a b : Addr} {xs ys : List V} {n : Nat} (hn : n = min xs.length ys.length) : Walk (RZ.ItzT K a b) n (fun H => SqT K H a xs ∧ SqT K H b ys) (YPair (fun i => xs[i]?) (fun i => ys[i]?)) := by
  subst hn
  refine ⟨fun i _ hi q => ?_, fun _ q => ⟨xs, ys, q.1, q.2, by omega⟩, fun i H v H' _ q y => ?_⟩
  · exact ⟨xs, ys, xs[i]'(by omega), ys[i]'(by omega), q.1, q.2, List.getElem?_eq_getElem _, List.getElem?_eq_getElem _⟩
  · obtain ⟨T, x, z, e1, e2, e3, e4, e5⟩ := y
    exact ⟨T, x, z, e1, e2, e3, e4 xs q.1, e5 ys q.2⟩
end
theorem all_replicate (n : Nat) : (List.replicate n true).all id = true := List.all_eq_true.mpr fun b hb => List.eq_of_mem_replicate hb
section
variable {P : Program} {w : World} {K : PySem.W.Frag} {mg : Str → Option Value} {base : Heap}
abbrev sLIsNumber : Stmt := topS 22
abbrev NLIsNumber : List Str := ["_law_value"]
theorem scLIsNumber : FnScope NLIsNumber ["_law_value"] (fnScope sLIsNumber) := ⟨rfl, rfl, rfl, by decide +kernel, rfl, by decide +kernel, by decide +kernel⟩
def spLNum (K : PySem.W.Frag) : Sp := fun vs H Q _ => ∃ v d, vs = [v] ∧ Dq K H v d ∧ Q (.bl (intB d)) H
theorem c_lnum (T : Tp mg) {f : Addr} {fd : FuncData} (D : Def K mg "_law_is_number" sLIsNumber f fd) (b : Binds K fd ["_law_value"] []) : Cal P w K mg base 1 "_law_is_number" (spLNum K) [] := by
  refine cal0 D b .nil scLIsNumber (fun vs H Q E h => ?_) (fun cdv A outer s H vs Q E hr h => ?_)
  · obtain ⟨v, d, rfl, _⟩ := h
    rfl
  · obtain ⟨v, d, rfl, hd, q⟩ := h
    refine ⟨_, (pss_one (ps_ret (pe_and (pe_callB call_isQ (by rfl) T.n_isinstance (by decide +kernel) (pa_cons (pv 0) (pa_cons (pe_bltn (v := .ty "int") (by rfl) T.n_int (by decide +kernel) rfl) pa_nil))) (pe_one (pe_not (pe_callB call_isQ (by rfl) T.n_isinstance (by decide +kernel) (pa_cons (pv 0) (pa_cons (pe_bltn (v := .ty "bool") (by rfl) T.n_bool (by decide +kernel) rfl) pa_nil)))))))), ?_⟩
    refine ⟨_, rfl, v, d, "int", rfl, hd, by decide, _, rfl, ?_⟩
    cases hd with
    | int i => exact iteT ⟨_, rfl, _, _, "bool", rfl, .int i, by decide, _, rfl, q⟩
    | bl bb => exact iteT ⟨_, rfl, _, _, "bool", rfl, .bl bb, by decide, _, rfl, q⟩
    | _ => exact iteF q
/-! ### fit -/
abbrev sLFit : Stmt := topS 25
abbrev NLFit : List Str := ["_law_kind_here", "_law_value", "_law_one"]
theorem scLFit : FnScope NLFit ["_law_kind_here", "_law_value"] (fnScope sLFit) := ⟨rfl, rfl, rfl, by decide +kernel, rfl, by decide +kernel, by decide +kernel⟩
def spFit (n : Nat) : Sp := fun vs H Q _ => ∃ (kv v : V) (k : Kd) (d : PyData), vs = [kv, v] ∧ Td H kv k.d ∧ Td H v d ∧ vv d = true ∧ d.weight ≤ 100000 ∧ k.deep < n ∧ ∀ H', Same H H' → Q (.bl (isK k d)) H'
theorem c_fit (T : Tp mg) (c_LIsNumber : Cal P w K mg base 1 "_law_is_number" (spLNum K) []) {f : Addr} {fd : FuncData} (D : Def K mg "_law_fit" sLFit f fd) (b : Binds K fd ["_law_kind_here", "_law_value"] []) :
    ∀ n : Nat, Cal P w K mg base (2 + n) "_law_fit" (spFit n) []
  | 0 => cal_no _ (fun vs H Q E ⟨kv, v, k, d, _, _, _, _, _, h, _⟩ => absurd h (Nat.not_lt_zero _)) D b
  | n + 1 => by
    have c_LFit := c_fit T c_LIsNumber D b n
    refine cal0 D b .nil scLFit (fun vs H Q E h => ?_) (fun cdv A outer s H vs Q E hr h => ?_)
    · obtain ⟨kv, v, k, d, rfl, _⟩ := h
      rfl
    · obtain ⟨kv, v, k, d, rfl, hk, hd, hv, hw, hm, q⟩ := h
      have nd := scLFit.nd
      have hr := (show Room (2 + n) _ from hr)
      refine ⟨_, (pss_cons (ps_if (pt_cmpR op_eq (pe_ix ix_tup (pv 0) pe_int (fun _ _ => rfl)) pe_str (nomark _))
      (pss_one (ps_ret pe_bl))
      pss_nil)
    (pss_cons (ps_if (pt_cmpR op_eq (pe_ix ix_tup (pv 0) pe_int (fun _ _ => rfl)) pe_str (nomark _))
      (pss_one (ps_ret (pe_and (pe_callB call_isQ (by rfl) T.n_isinstance (by decide +kernel) (pa_cons (pv 1) (pa_cons (pe_bltn (v := .ty "tuple") (by rfl) T.n_tuple (by decide +kernel) rfl) pa_nil))) (pe_one (pe_callB (cr_all rfl) (by rfl) T.n_all (by decide +kernel) (pa_cons (pe_lc (own := [("_law_one", 2)]) (g := gName 2) (by rfl) nd (pi_tup (pv 1)) (blkOk_by (own := [("_law_one", 2)]) (N := NLFit) (sc := fnScope sLFit) (by decide +kernel)) (fun _ _ _ _ _ => pg_name (i := 2) nd rfl (Or.inl rfl)) (fun _ _ _ _ _ => pts_nil) (fun _ _ _ _ _ => (pe_c c_LFit hr (Nat.le_refl _) (by rfl) (pa_cons (pe_ix (r := rIxT K) ix_tup (pv 0) pe_int (fun _ _ => rfl)) (pa_cons (pv 2) pa_nil))))) pa_nil))))))
      pss_nil)
    (pss_cons (ps_if (pt_cmpR op_eq (pe_ix ix_tup (pv 0) pe_int (fun _ _ => rfl)) pe_str (nomark _))
      (pss_one (ps_ret (pe_callB call_isQ (by rfl) T.n_isinstance (by decide +kernel) (pa_cons (pv 1) (pa_cons (pe_bltn (v := .ty "bool") (by rfl) T.n_bool (by decide +kernel) rfl) pa_nil)))))
      pss_nil)
    (pss_one (ps_ret (pe_c c_LIsNumber hr (by omega) (by rfl) (pa_cons (pv 1) pa_nil))))))), ?_⟩
      obtain ⟨a, xs, rfl, ha, h0⟩ := tk_word hk
      have q0 := q H (Same.refl H)
      refine ⟨_, rfl, a, xs, 0, _, rfl, rfl, SqT.of ha, atI_nat (j := 0) h0, rfl, _, rfl, ?_⟩
      cases k with
      | rcd z =>
        refine iteT' (by show decide (V.str "record" = V.str "record") = true; decide +kernel) ?_
        have e : isK (.rcd z) d = false := by cases d <;> rfl
        rw [e] at q0
        exact q0
      | lst k1 =>
        refine iteF' (by show decide (V.str "list" = V.str "record") = false; decide +kernel) ?_
        refine ⟨_, rfl, a, xs, 0, _, rfl, rfl, SqT.of ha, atI_nat (j := 0) h0, rfl, _, rfl, iteT' (by show decide (V.str "list" = V.str "list") = true; decide +kernel) ?_⟩
        obtain ⟨a', v1, ea, hl, hk1⟩ := tk_lst hk
        cases ea
        have hdeep : k1.deep < n := by have : k1.deep + 1 < n + 1 := hm; omega
        refine ⟨_, rfl, v, d, "tuple", rfl, hd.p.q, by decide, _, rfl, ?_⟩
        cases hd with
        | @tup t ys ds ht hds =>
          have hw2 : PyData.weightAll ds ≤ 100000 := by simpa [PyData.weight] using hw
          have hvs : vvs ds = true := by simpa [vv] using hv
          have hlen := len_weightAll ds
          refine iteT ⟨_, rfl, t, rfl, ⟨ys, SqT.of ht⟩, ?_⟩
          refine lcB (K := K) (isK k1) ht hds (by omega) (fun i x e H' Q' hi hx sm hQ => ?_) (fun Dl H' _ hat sm => ?_)
          · have hmem := List.mem_of_getElem? hi
            have := weight_mem hmem
            exact ⟨_, rfl, a, _, 1, v1, rfl, rfl, SqT.of (sm _ _ hl), atI_nat (j := 1) rfl, _, rfl, v1, x, k1, e, rfl, hk1.mono (TupS.same sm), hx, vv_mem hvs hmem, by omega, hdeep, hQ⟩
          · refine ⟨Dl, _, rfl, SqL.of hat, ?_⟩
            rw [all_id]
            exact q H' sm
        | _ => exact iteF q0
      | tru =>
        refine iteF' (by decide +kernel) ?_
        refine ⟨_, rfl, a, xs, 0, _, rfl, rfl, SqT.of ha, atI_nat (j := 0) h0, rfl, _, rfl, iteF' (by decide +kernel) ?_⟩
        refine ⟨_, rfl, a, xs, 0, _, rfl, rfl, SqT.of ha, atI_nat (j := 0) h0, rfl, _, rfl, iteT' (by decide +kernel) ?_⟩
        exact ⟨_, rfl, v, d, "bool", rfl, hd.p.q, by decide, q0⟩
      | num =>
        refine iteF' (by decide +kernel) ?_
        refine ⟨_, rfl, a, xs, 0, _, rfl, rfl, SqT.of ha, atI_nat (j := 0) h0, rfl, _, rfl, iteF' (by decide +kernel) ?_⟩
        refine ⟨_, rfl, a, xs, 0, _, rfl, rfl, SqT.of ha, atI_nat (j := 0) h0, rfl, _, rfl, iteF' (by decide +kernel) ?_⟩
        exact ⟨_, rfl, v, d, rfl, hd.p.q, q0⟩
/-! ### same -/
abbrev sLSame : Stmt := topS 26
abbrev NLSame : List Str := ["_law_one", "_law_other", "_law_a", "_law_b"]
theorem scLSame : FnScope NLSame ["_law_one", "_law_other"] (fnScope sLSame) := ⟨rfl, rfl, rfl, by decide +kernel, rfl, by decide +kernel, by decide +kernel⟩
/-- asked of data alike alone -/
def spSame (n : Nat) : Sp := fun vs H Q _ => ∃ (v u : V) (d : PyData), vs = [v, u] ∧ Td H v d ∧ Td H u d ∧ vv d = true ∧ d.weight ≤ 100000 ∧ d.depth < n ∧ ∀ H', Same H H' → Q (.bl true) H'
theorem c_same (T : Tp mg) {f : Addr} {fd : FuncData} (D : Def K mg "_law_same" sLSame f fd) (b : Binds K fd ["_law_one", "_law_other"] []) :
    ∀ n : Nat, n ≤ 60 → Cal P w K mg base (1 + n) "_law_same" (spSame n) []
  | 0, _ => cal_no _ (fun vs H Q E ⟨v, u, d, _, _, _, _, _, h, _⟩ => absurd h (Nat.not_lt_zero _)) D b
  | n + 1, hn => by
    have c_LSame := c_same T D b n (by omega)
    refine cal0 D b .nil scLSame (fun vs H Q E h => ?_) (fun cdv A outer s H vs Q E hr h => ?_)
    · obtain ⟨v, u, d, rfl, _⟩ := h
      rfl
    · obtain ⟨v, u, d, rfl, hd, he, hv, hw, hm, q⟩ := h
      have nd := scLSame.nd
      have hr := (show Room (1 + n) _ from hr)
      refine ⟨_, (pss_cons (ps_if (PW.pt (pw_and (pt_val (pe_callB call_isQ (by rfl) T.n_isinstance (by decide +kernel) (pa_cons (pv 0) (pa_cons (pe_bltn (v := .ty "tuple") (by rfl) T.n_tuple (by decide +kernel) rfl) pa_nil)))) (pw_and1 (pt_val (pe_callB call_isQ (by rfl) T.n_isinstance (by decide +kernel) (pa_cons (pv 1) (pa_cons (pe_bltn (v := .ty "tuple") (by rfl) T.n_tuple (by decide +kernel) rfl) pa_nil)))))))
      (pss_one (ps_ret (pe_and (pe_cmpR op_eq (pe_callB call_len_seq (by rfl) T.n_len (by decide +kernel) (pa_cons (pv 0) pa_nil)) (pe_callB call_len_seq (by rfl) T.n_len (by decide +kernel) (pa_cons (pv 1) pa_nil)) (nomark _)) (pe_one (pe_callB (cr_all rfl) (by rfl) T.n_all (by decide +kernel) (pa_cons (pe_lc (own := [("_law_a", 2), ("_law_b", 3)]) (g := gTup K 2 (gCons (gName 2) (gCons (gName 3) gNil))) (by rfl) nd (RZ.pi_zipA (by rfl) T.n_zip (pa_cons (pv 0) (pa_cons (pv 1) pa_nil))) (blkOk_by (own := [("_law_a", 2), ("_law_b", 3)]) (N := NLSame) (sc := fnScope sLSame) (by decide +kernel)) (fun _ _ _ _ _ => (pg_tup (n := 2) rfl (pgs_cons (pg_name (i := 2) nd rfl (Or.inl rfl)) (pgs_cons (pg_name (i := 3) nd rfl (Or.inl rfl)) pgs_nil)))) (fun _ _ _ _ _ => pts_nil) (fun _ _ _ _ _ => (pe_c c_LSame hr (Nat.le_refl _) (by rfl) (pa_cons (pv 2) (pa_cons (pv 3) pa_nil))))) pa_nil))))))
      pss_nil)
    (pss_one (ps_ret (pe_and (pe_cmpR op_eq (pe_callB call_isQ (by rfl) T.n_isinstance (by decide +kernel) (pa_cons (pv 0) (pa_cons (pe_bltn (v := .ty "bool") (by rfl) T.n_bool (by decide +kernel) rfl) pa_nil))) (pe_callB call_isQ (by rfl) T.n_isinstance (by decide +kernel) (pa_cons (pv 1) (pa_cons (pe_bltn (v := .ty "bool") (by rfl) T.n_bool (by decide +kernel) rfl) pa_nil))) (nomark _)) (pe_one (pe_cmpR (op_eqD hr.units) (pv 0) (pv 1) (nomark _))))))), ?_⟩
      have hsh : SeqAt.shaped d = true := vv_shaped hv (by omega)
      have q0 := q H (Same.refl H)
      have eqv : PyData.eqv d d = true := SeqAt.eqv_refl d (vv_lay hv)
      refine ⟨_, rfl, v, d, "tuple", rfl, hd.p.q, by decide, _, rfl, ?_⟩
      cases hd with
      | @tup t xs ds ht hds =>
        cases he with
        | @tup t2 ys _ ht2 hes =>
          have hw2 : PyData.weightAll ds ≤ 100000 := by simpa [PyData.weight] using hw
          have hvs : vvs ds = true := by simpa [vv] using hv
          have hlen := len_weightAll ds
          have hdp : PyData.depthAll ds < n := by simp only [PyData.depth] at hm; omega
          have hxl := hds.len
          have hyl := hes.len
          refine iteT ⟨_, rfl, _, _, "tuple", rfl, (Td.tup ht2 hes).p.q, by decide, _, rfl, iteT ?_⟩
          refine ⟨_, rfl, t, xs, rfl, .inr (SqT.of ht), _, rfl, t2, ys, rfl, .inr (SqT.of ht2), rfl, _, rfl, iteT' (decide_eq_true (by rw [hxl, hyl])) ?_⟩
          refine ⟨_, rfl, _, rfl, t, t2, xs, ys, rfl, .inr ⟨SqT.of ht, SqT.of ht2, fun Dl hDl => ?_⟩⟩
          refine lc_it (walk_zipT (K := K) (a := t) (b := t2) (xs := xs) (ys := ys) (n := ds.length) (by omega)) (fun i H' => H' Dl = some (.lst ((List.replicate i true).map V.bl)) ∧ Same H H')
            ⟨upd_same, Same.new hDl⟩ (fun i H' _ hW => ⟨SqT.of (hW.2 _ _ ht), SqT.of (hW.2 _ _ ht2)⟩) (fun i x H2 H' hi hW hY => ?_) (fun H' hW => ?_)
          · obtain ⟨hat, sm⟩ := hW
            obtain ⟨T9, x9, y9, rfl, hT9, rfl, hx9, hy9⟩ := hY
            have hx9 : xs[i]? = some x9 := hx9
            have hy9 : ys[i]? = some y9 := hy9
            obtain ⟨d9, hd9, hdq⟩ := tdAll_at hds hx9
            obtain ⟨e9, he9, heq⟩ := tdAll_at hes hy9
            rw [hd9] at he9
            cases he9
            have sT := sm.trans (Same.new (o := .tup [x9, y9]) hT9)
            have hmem := List.mem_of_getElem? hd9
            refine ⟨T9, _, rfl, SqT.of upd_same, rfl, _, _, rfl, _, _, rfl, rfl, rfl, ?_⟩
            unfold tYes; dsimp only
            rw [if_pos rfl]
            have hwt := weight_mem hmem
            have hdt := depth_mem hmem
            refine ⟨_, rfl, _, rfl, x9, y9, d9, rfl, hdq.mono (TupS.same sT), heq.mono (TupS.same sT), vv_mem hvs hmem, by omega, by omega, fun H3 s3 => ?_⟩
            refine ⟨_, s3 _ _ (Same.new hT9 _ _ hat), by rw [List.length_map, List.length_replicate, sizeLine_eq]; omega, ?_, fun b o hb => ?_⟩
            · rw [List.replicate_succ', List.map_append]
              exact upd_same
            · rw [upd_ne (fun z => by rw [z, hDl] at hb; cases hb)]
              exact s3 _ _ (sT _ _ hb)
          · obtain ⟨hat, sm⟩ := hW
            refine ⟨Dl, _, rfl, SqL.of hat, ?_⟩
            rw [all_replicate]
            exact q H' sm
      | int i =>
        cases he
        refine iteF ⟨_, rfl, _, _, "bool", rfl, .int i, by decide, _, rfl, _, _, "bool", rfl, .int i, by decide, rfl, _, rfl, iteT' (decide_eq_true rfl) ⟨_, rfl, _, rfl, .int i, .int i, .int i, .int i, hsh, hsh, ?_⟩⟩
        rw [eqv]
        exact q0
      | bl i =>
        cases he
        refine iteF ⟨_, rfl, _, _, "bool", rfl, .bl i, by decide, _, rfl, _, _, "bool", rfl, .bl i, by decide, rfl, _, rfl, iteT' (decide_eq_true rfl) ⟨_, rfl, _, rfl, .bool i, .bool i, .bl i, .bl i, hsh, hsh, ?_⟩⟩
        rw [eqv]
        exact q0
      | str i =>
        cases he
        refine iteF ⟨_, rfl, _, _, "bool", rfl, .str i, by decide, _, rfl, _, _, "bool", rfl, .str i, by decide, rfl, _, rfl, iteT' (decide_eq_true rfl) ⟨_, rfl, _, rfl, .str i, .str i, .str i, .str i, hsh, hsh, ?_⟩⟩
        rw [eqv]
        exact q0
end
end K43
set_option Elab.async false
set_option linter.all false
set_option maxRecDepth 100000
set_option maxHeartbeats 2000000
namespace K43
open PySem PySem.Spec PyProof.Rows L2 KD
open C8 (Cal Def cal0 pe_c fnBody fnScope fnArgs)
/-- an expression whose object is not to change from then on: a dict that is walked where it comes into being -/
def tFroz (t : TE) : TE := fun σ H Q => t σ H fun x H1 => ∃ d u, x = .ref d ∧ H1 d = some u ∧ Mut (some u) ∧ ∀ od, Q x (upd H1 d (.frz od u))
theorem pe_froz {X : Cx} {e : Expr} {t : TE} (h : PE X e t) : PE X e (tFroz t) := by
  refine ⟨fun pins s σ H Q I hw => thn (h.run pins s σ H _ I hw) fun v s1 ⟨x, H1, I1, r, d, u, ex, hd, mu, q⟩ => ?_⟩
  obtain ⟨od, I2⟩ := I1.lock hd mu
  exact ⟨x, _, I2, r, q od⟩
def Nm (z : Str) : Prop := z.length ≤ 8 ∧ ∀ c ∈ z.cps.toList, c < 128
/-- a dict's entries: texts to kinds -/
abbrev Rk (H : Hp) (kvs : List (Key × V)) (ks : List (Str × Kd)) : Prop := Paired (fun q a => q.1 = Sum.inr a.1 ∧ Td H q.2 a.2.d) kvs ks
theorem Rk.mono {H H' : Hp} {kvs : List (Key × V)} {ks : List (Str × Kd)} (e : TupS H H') (h : Rk H kvs ks) : Rk H' kvs ks := Paired.mapP h fun _ _ r => ⟨r.1, r.2.mono e⟩
structure KOk (m : Nat) (ks : List (Str × Kd)) : Prop where
  nd : (ks.map (·.1)).Nodup
  nm : ∀ a ∈ ks, Nm a.1
  ok : ∀ a ∈ ks, a.2.ok ∧ a.2.deep ≤ 3
  len : ks.length ≤ m
theorem paired_snoc {α β : Type} {F : α → β → Prop} {x : α} {y : β} : ∀ {xs : List α} {ys : List β}, Paired F xs ys → F x y → Paired F (xs ++ [x]) (ys ++ [y])
  | _, _, .nil, h => .cons h .nil
  | _, _, .cons a t, h => .cons a (paired_snoc t h)
theorem Rk.keys {H : Hp} {kvs : List (Key × V)} {ks : List (Str × Kd)} (h : Rk H kvs ks) : kvs.map (·.1) = (ks.map (·.1)).map Sum.inr := by
  induction h with
  | nil => rfl
  | cons r t ih => simp [r.1, ih]
theorem notin_valV {kv : List (Key × V)} {ks : List Str} {z : Str} (hk : kv.map (·.1) = ks.map Sum.inr) (hz : z ∉ ks) : valV kv (.inr z) = none := valV_out fun q hq e => by
  have h1 : q.1 ∈ kv.map (·.1) := List.mem_map_of_mem hq
  rw [hk] at h1
  obtain ⟨y, hy, e2⟩ := List.mem_map.mp h1
  rw [e] at e2
  cases e2
  exact hz hy
theorem cutS_take (z : Str) (k : Nat) : (cutS z none (some (k : Int))).cps.toList = z.cps.toList.take k := by
  unfold cutS
  rw [HT.sIx_none, HT.sIx_nat, List.drop_zero, Nat.sub_zero]
  show (_ : List Nat) = _
  rw [List.toList_toArray]
  have hl : z.cps.toList.length = z.length := Array.length_toList
  rcases Nat.le_total k z.length with c | c
  · rw [Nat.min_eq_left c]
  · rw [Nat.min_eq_right c, List.take_of_length_le (by omega), List.take_of_length_le (by omega)]
theorem len_tl (z : Str) : z.cps.toList.length = z.length := Array.length_toList
theorem tl_app (x y : Str) : (x ++ y).cps.toList = x.cps.toList ++ y.cps.toList := TL.tl_append x y
def hd1 (z : Str) : Option Nat := z.cps.toList.head?
theorem hd1_app (c : Nat) (y : Str) : hd1 ((⟨#[c]⟩ : Str) ++ y) = some c := by
  unfold hd1
  rw [tl_app]
  rfl
theorem nodup_hd {ks : List (Str × Kd)} {l : List Nat} (h : ks.map (fun a => hd1 a.1) = l.map some) (hl : l.Nodup) : (ks.map (·.1)).Nodup := by
  have h1 : (l.map some).Nodup := List.pairwise_map.mpr (List.Pairwise.imp (fun {a b} (n : a ≠ b) e => n (Option.some.inj e)) hl)
  rw [← h] at h1
  have h2 : ((ks.map (·.1)).map hd1).Nodup := by rw [List.map_map]; exact h1
  exact List.Pairwise.imp (fun {a b} (n : hd1 a ≠ hd1 b) e => n (congrArg _ e)) (List.pairwise_map.mp h2)
section
variable {P : Program} {w : World} {K : PySem.W.Frag} {mg : Str → Option Value} {base : Heap}
abbrev sLThings : Stmt := topS 27
abbrev NLThings : List Str := ["_law_pot_here", "_law_letters", "_law_found", "_law_letter"]
theorem scLThings : FnScope NLThings ["_law_pot_here", "_law_letters"] (fnScope sLThings) := ⟨rfl, rfl, rfl, by decide +kernel, rfl, by decide +kernel, by decide +kernel⟩
def spThings : Sp := fun vs H Q _ => ∃ (p : Addr) (z : Str), vs = [.ref p, .str z] ∧ Pt H p ∧ z.length ≤ 10 ∧ z.cps.toList.Nodup ∧ (∀ c ∈ z.cps.toList, c < 128) ∧
  ∀ D kvs ks H', D ≠ p → H D = none → H' D = some (.dK kvs) → Rk H' kvs ks → KOk 10 ks → Go p H H' → Q (.ref D) H'
theorem c_things (T : Tp mg) (c_LTake : Cal P w K mg base 1 "_law_take" spTake []) (c_LKind : Cal P w K mg base 6 "_law_kind" (spKind 4) []) {f : Addr} {fd : FuncData} (D : Def K mg "_law_things" sLThings f fd) (b : Binds K fd ["_law_pot_here", "_law_letters"] []) : Cal P w K mg base 7 "_law_things" spThings [] := by
  refine cal0 D b .nil scLThings (fun vs H Q E h => ?_) (fun cdv A outer s H vs Q E hr h => ?_)
  · obtain ⟨p, z, rfl, _⟩ := h
    rfl
  · obtain ⟨p, z, rfl, hp, zl, znd, zc, q⟩ := h
    have nd := scLThings.nd
    have line := sizeLine_eq
    have hu1 : (A.deeper (envOfC "_law_things" (fnScope sLThings) s.heap.objs.size f cdv)).units + 1 < cLine := by have := hr.un; omega
    refine ⟨_, (pss_cons (ps_set (i := 2) nd rfl (.inl rfl) pe_dnewK)
    (pss_cons (ps_for PassesOwn.never rfl (pi_str (pe_slice sl_str (pv 1) po_none (po_some (pe_c c_LTake hr (by decide) (by rfl) (pa_cons (pv 0) (pa_cons (pe_op op_add (pe_callB call_len_str (by rfl) T.n_len (by decide +kernel) (pa_cons (pv 1) pa_nil)) pe_int) pa_nil)))))) (pg_name (i := 3) nd rfl (.inl rfl))
      (pss_one (ps_dput hu1 (pv 2) (pe_op op_add_str (pv 3) (pe_slice sl_str pe_str po_none (po_some (pe_c c_LTake hr (by decide) (by rfl) (pa_cons (pv 0) (pa_cons pe_int pa_nil)))))) (pe_c c_LKind hr (by decide) (by rfl) (pa_cons (pv 0) (pa_cons pe_int pa_nil))) rfl)))
    (pss_one (ps_ret (pv 2))))), ?_⟩
    intro d hd
    have nd' := hp.ne hd
    have g0 : Go p H (upd H d (.dK [])) := (Go.refl hp).new hd
    refine ⟨_, rfl, _, rfl, _, rfl, z, rfl, by omega, _, _, rfl, rfl, p, _, rfl, g0.2, by omega, small300 (by omega) (by omega), fun r H1 r0 r1 g1 => ⟨r, rfl, z, rfl, by omega, _, rfl, ?_⟩⟩
    obtain ⟨k, rfl⟩ : ∃ k : Nat, r = (k : Int) := ⟨r.toNat, by omega⟩
    have hct := cutS_take z k
    have hsz : (cutS z none (some (k : Int))).cps.size ≤ z.cps.toList.length := by
      rw [← Array.length_toList, hct, List.length_take]
      exact Nat.min_le_right _ _
    have hzl : z.cps.toList.length = z.length := Array.length_toList
    refine for_it (walk_str (z := cutS z none (some (k : Int)))) (fun i σ H' => ∃ (o3 : Option V) (kvs : List (Key × V)) (ks : List (Str × Kd)), σ = [some (.ref p), some (.str z), some (.ref d), o3] ∧ H' d = some (.dK kvs) ∧ Rk H' kvs ks ∧
        ks.map (fun a => hd1 a.1) = (z.cps.toList.take i).map some ∧ (∀ a ∈ ks, Nm a.1) ∧ (∀ a ∈ ks, a.2.ok ∧ a.2.deep ≤ 3) ∧ Go p H H' ∧ i ≤ z.cps.toList.length)
      ⟨_, [], [], rfl, g1.at nd' upd_same, .nil, rfl, (fun a ha => nomatch ha), (fun a ha => nomatch ha), g0.trans g1, Nat.zero_le _⟩ (fun _ _ _ _ _ => True.intro) (fun i x σ H2 H3 hi hW hY => ?_) (fun σ H2 hW => ?_)
    · obtain ⟨o3, kvs, ks, rfl, hat, hR, hh, hnm, hok, g, _⟩ := hW
      obtain ⟨rfl, c, hc, rfl⟩ := hY
      have hc2 : (z.cps.toList.take k)[i]? = some c := by rw [← hct, Array.getElem?_toList]; exact hc
      have hik : i < k := by
        rcases Nat.lt_or_ge i k with h | h
        · exact h
        · rw [List.getElem?_eq_none (by rw [List.length_take]; omega)] at hc2; cases hc2
      have hc3 : z.cps.toList[i]? = some c := by rw [List.getElem?_take_of_lt hik] at hc2; exact hc2
      have hil := (List.getElem?_eq_some_iff.mp hc3).1
      have hcm := List.mem_of_getElem? hc3
      refine ⟨_, rfl, p, 3, rfl, by decide, g.2, fun v kd H4 hk1 hk2 hT g4 => ?_⟩
      refine ⟨_, rfl, _, rfl, _, rfl, p, 4, rfl, g4.2, by decide, by decide, fun r2 H5 r20 r21 g5 => ⟨r2, rfl, "abc", rfl, by rw [show (("abc" : Str)).length = 3 from (by decide +kernel)]; omega, ?_⟩⟩
      have hcl := cutS_length "abc" none (some r2)
      have h3 : (("abc" : Str)).length = 3 := by decide +kernel
      refine ⟨_, _, rfl, rfl, by show (⟨#[c]⟩ : Str).length + _ ≤ _; rw [show (⟨#[c]⟩ : Str).length = 1 from rfl]; omega, ?_⟩
      generalize hkey : ((⟨#[c]⟩ : Str) ++ cutS "abc" none (some r2)) = key
      have hkh : hd1 key = some c := by rw [← hkey]; exact hd1_app c _
      have hkn : Nm key := by
        rw [← hkey]
        refine ⟨?_, fun y hy => ?_⟩
        · have : ((⟨#[c]⟩ : Str) ++ cutS "abc" none (some r2)).length = 1 + (cutS "abc" none (some r2)).length := by
            rw [← len_tl, tl_app, List.length_append, len_tl, len_tl]
            rfl
          omega
        · rw [tl_app] at hy
          rcases List.mem_append.mp hy with hy | hy
          · have : y = c := by simpa using hy
            rw [this]
            exact zc c hcm
          · have : y ∈ (("abc" : Str)).cps.toList := by
              obtain ⟨k2, rfl⟩ : ∃ k2 : Nat, r2 = (k2 : Int) := ⟨r2.toNat, by omega⟩
              rw [cutS_take] at hy
              exact List.mem_of_mem_take hy
            have h4 : ((("abc" : Str)).cps.toList.all fun c => decide (c < 128)) = true := by decide +kernel
            exact of_decide_eq_true (List.all_eq_true.mp h4 y this)
      have g25 := g4.trans g5
      have hat5 : H5 d = some (.dK kvs) := g25.at nd' hat
      have hknew : key ∉ ks.map (·.1) := fun hm => by
        obtain ⟨a, ha, rfl⟩ := List.mem_map.mp hm
        have : some c ∈ ks.map (fun a => hd1 a.1) := by rw [← hkh]; exact List.mem_map_of_mem (f := fun a : Str × Kd => hd1 a.1) ha
        rw [hh] at this
        obtain ⟨y, hy, e⟩ := List.mem_map.mp this
        cases e
        obtain ⟨j, hj, ej⟩ := List.mem_iff_getElem.mp hy
        rw [List.length_take] at hj
        rw [List.getElem_take] at ej
        have e1 : z.cps.toList[j]'(by omega) = z.cps.toList[i]'hil := by rw [ej, (List.getElem?_eq_some_iff.mp hc3).2]
        exact absurd e1 (List.pairwise_iff_getElem.mp znd j i (by omega) hil (by omega))
      have hkl : kvs.length ≤ 10 := by
        have h1 := Paired.length hR
        have h2 := congrArg List.length hh
        rw [List.length_map, List.length_map, List.length_take] at h2
        omega
      refine ⟨d, _, rfl, DPut.k (k := Sum.inr key) hat5 (by omega), ?_⟩
      rw [putK_new _ (notin_valV hR.keys hknew)]
      have U := TupS.dput (o := .dK (kvs ++ [(Sum.inr key, v)])) hat5
      refine ⟨_, kvs ++ [(Sum.inr key, v)], ks ++ [(key, kd)], rfl, upd_same, ?_, ?_, ?_, ?_, ?_, hil⟩
      · exact paired_snoc (hR.mono ((g25.tups g.2).trans U)) ⟨rfl, hT.mono ((g5.tups g4.2).trans U)⟩
      · rw [List.map_append, hh, take_succ hc3, List.map_append]
        simp [hkh]
      · intro a ha
        rcases List.mem_append.mp ha with ha | ha
        · exact hnm a ha
        · rw [List.mem_singleton.mp ha]; exact hkn
      · intro a ha
        rcases List.mem_append.mp ha with ha | ha
        · exact hok a ha
        · rw [List.mem_singleton.mp ha]; exact ⟨hk1, hk2⟩
      · have g6 := g.trans g25
        refine ⟨fun b o nb hb => ?_, ?_⟩
        · rw [upd_ne (ne_some hb hd)]
          exact g6.1 b o nb hb
        · obtain ⟨x, y, a, r⟩ := g6.2
          exact ⟨x, y, by rw [upd_ne nd'.symm]; exact a, r⟩
    · obtain ⟨o3, kvs, ks, rfl, hat, hR, hh, hnm, hok, g, hle⟩ := hW
      refine ⟨_, rfl, q d kvs ks H2 nd' hd hat hR ⟨nodup_hd hh ?_, hnm, hok, ?_⟩ g⟩
      · exact List.Sublist.nodup (List.take_sublist _ _) znd
      · have h2 := congrArg List.length hh
        rw [List.length_map, List.length_map, List.length_take] at h2
        omega
end
end K43
set_option Elab.async false
set_option linter.all false
set_option maxRecDepth 100000
set_option maxHeartbeats 2000000
namespace K43
open PySem PySem.Spec PyProof.Rows L2 KD
open C8 (Cal Def cal0 pe_c fnBody fnScope fnArgs)
/-- a box: its kind, its first value -/
def BoxT (H : Hp) (v : V) (d : PyData) : Prop := ∃ (t : Addr) (kv u : V), v = .ref t ∧ H t = some (.tup [kv, u]) ∧ Td H u d ∧ vv d = true ∧ Ok 4 10000 d
theorem BoxT.mono {H H' : Hp} {v : V} {d : PyData} (e : TupS H H') (h : BoxT H v d) : BoxT H' v d := let ⟨t, kv, u, h1, h2, h3, h4⟩ := h; ⟨t, kv, u, h1, e _ _ h2, h3.mono e, h4⟩
abbrev Rb (H : Hp) (kvs : List (Key × V)) (bs : List (Str × PyData)) : Prop := Paired (fun q a => q.1 = Sum.inr a.1 ∧ BoxT H q.2 a.2) kvs bs
theorem Rb.mono {H H' : Hp} {kvs : List (Key × V)} {bs : List (Str × PyData)} (e : TupS H H') (h : Rb H kvs bs) : Rb H' kvs bs := Paired.mapP h fun _ _ r => ⟨r.1, r.2.mono e⟩
theorem Rb.keys {H : Hp} {kvs : List (Key × V)} {bs : List (Str × PyData)} (h : Rb H kvs bs) : kvs.map (·.1) = (bs.map (·.1)).map Sum.inr := by
  induction h with
  | nil => rfl
  | cons r t ih => simp [r.1, ih]
/-- a take, a part, as data -/
def takeD (a : Str × Kd) : PyData := .tuple [.str a.1, a.2.d]
def partD (ts : List (Str × Kd)) (g : Kd) : PyData := .tuple [.tuple (ts.map takeD), g.d, .tuple [.tuple [.str "go", .int 0]]]
structure BOk (bs : List (Str × PyData)) : Prop where
  nd : (bs.map (·.1)).Nodup
  nm : ∀ a ∈ bs, Nm a.1
  len : bs.length ≤ 10
/-- the program: boxes at b, parts at d -/
structure Prg (H : Hp) (a b d : Addr) (kvb : List (Key × V)) (bs : List (Str × PyData)) (m n : V) (ts : List (Str × Kd)) (g : Kd) : Prop where
  at_ : ∃ kd, H a = some (.tup [.ref kd, .ref b, .ref d])
  b_ : H b = some (.dK kvb)
  bx : Rb H kvb bs
  bo : BOk bs
  d_ : H d = some (.dK [(Sum.inr "main", m), (Sum.inr "m", n)])
  m_ : Td H m (partD ts g)
  n_ : Td H n (partD [] g)
  tk : KOk 10 ts
  g_ : g.ok ∧ g.deep ≤ 3
theorem Go.putNew {p kd : Addr} {H H2 : Hp} {o o' : HO} (hp : Pt H p) (hk : H kd = none) (s : Same (upd H kd o) H2) : Go p H (upd H2 kd o') := by
  refine ⟨fun b u nb hb => ?_, ?_⟩
  · rw [upd_ne (ne_some hb hk)]
    exact s _ _ (by rw [upd_ne (ne_some hb hk)]; exact hb)
  · obtain ⟨x, y, a, r⟩ := (hp.new (o := o) hk).same s
    exact ⟨x, y, by rw [upd_ne (hp.ne hk).symm]; exact a, r⟩
theorem Go.put2 {p b : Addr} {H H2 : Hp} {o : HO} (hb : H b = none) (nb : b ≠ p) (g : Go p H H2) : Go p H (upd H2 b o) := by
  refine ⟨fun c u nc hc => ?_, ?_⟩
  · rw [upd_ne (ne_some hc hb)]
    exact g.1 c u nc hc
  · obtain ⟨x, y, a, r⟩ := g.2
    exact ⟨x, y, by rw [upd_ne nb.symm]; exact a, r⟩
def rcdN : Kd → Nat | .rcd _ => 1 | _ => 0
theorem tk_not {k : Kd} (h : rcdN k = 0) : decide (V.str k.word = V.str "record") = false := by
  cases k with
  | rcd z => cases h
  | num => decide +kernel
  | tru => decide +kernel
  | lst k => show decide (V.str "list" = V.str "record") = false; decide +kernel
theorem tdAll_items {H : Hp} : ∀ {ts : List Addr} {kvs : List (Key × V)} {ks : List (Str × Kd)}, Paired (fun (t : Addr) (q : Key × V) => H t = some (.tup [kV q.1, q.2])) ts kvs → Rk H kvs ks → TdAll H (ts.map V.ref) (ks.map takeD)
  | _, _, _, .nil, .nil => .nil
  | _, _, _, .cons h t, .cons r s => .cons (.tup (by rw [h, r.1]; rfl) (.cons (.str _) (.cons r.2 .nil))) (tdAll_items t s)
section
variable {P : Program} {w : World} {K : PySem.W.Frag} {mg : Str → Option Value} {base : Heap}
abbrev sLProgram : Stmt := topS 28
abbrev NLProgram : List Str := ["_law_pot_here", "_law_kinds", "_law_boxes", "_law_takes", "_law_gives", "_law_name", "_law_kind_here"]
theorem scLProgram : FnScope NLProgram ["_law_pot_here"] (fnScope sLProgram) := ⟨rfl, rfl, rfl, by decide +kernel, rfl, by decide +kernel, by decide +kernel⟩
def spProgram : Sp := fun vs H Q _ => ∃ (p : Addr), vs = [.ref p] ∧ Pt H p ∧ ∀ a b d kvb bs m n ts g H', b ≠ p → d ≠ p → Prg H' a b d kvb bs m n ts g → Go p H H' → H b = none → H d = none → Q (.ref a) H'
theorem c_program (T : Tp mg) (c_LPlain : Cal P w K mg base 6 "_law_plain" (spPlain 4) []) (c_LKind : Cal P w K mg base 6 "_law_kind" (spKind 4) []) (c_LThings : Cal P w K mg base 7 "_law_things" spThings [])
    {f : Addr} {fd : FuncData} (D : Def K mg "_law_program" sLProgram f fd) (b : Binds K fd ["_law_pot_here"] []) : Cal P w K mg base 8 "_law_program" spProgram [] := by
  refine cal0 D b .nil scLProgram (fun vs H Q E h => ?_) (fun cdv A outer s H vs Q E hr h => ?_)
  · obtain ⟨p, rfl, _⟩ := h
    rfl
  · obtain ⟨p, rfl, hp, q⟩ := h
    have nd := scLProgram.nd
    have line := sizeLine_eq
    have hu1 : (A.deeper (envOfC "_law_program" (fnScope sLProgram) s.heap.objs.size f cdv)).units + 1 < cLine := by have := hr.un; omega
    refine ⟨_, (pss_cons (ps_set (i := 1) nd rfl (.inl rfl) (pe_disp (pps_cons pe_str (pe_tup (pa_cons (pe_tup (pa_cons pe_str (pa_cons (pe_tup (pa_cons pe_str pa_nil)) pa_nil))) pa_nil)) pps_nil) (by rfl) (by rfl) (fun z => by cases z) (by decide)))
    (pss_cons (ps_set (i := 2) nd rfl (.inl rfl) pe_dnewK)
    (pss_cons (ps_for PassesOwn.never rfl (pi_items (pe_froz (pe_c c_LThings hr (by decide) (by rfl) (pa_cons (pv 0) (pa_cons pe_str pa_nil))))) (pg_tup rfl (pgs_cons (pg_name (i := 5) nd rfl (.inl rfl)) (pgs_cons (pg_name (i := 6) nd rfl (.inl rfl)) pgs_nil)))
      (pss_cons (ps_while PassesOwn.never (pt_cmpR op_eq (pe_ix ix_tup (pv 6) pe_int (fun _ _ => rfl)) pe_str (nomark _))
      (pss_one (ps_set (i := 6) nd rfl (.inl rfl) (pe_tup (pa_cons pe_str (pa_cons (pv 6) pa_nil))))))
    (pss_one (ps_dput hu1 (pv 2) (pv 5) (pe_tup (pa_cons (pv 6) (pa_cons (pe_c c_LPlain hr (by decide) (by rfl) (pa_cons (pv 0) (pa_cons (pv 6) pa_nil))) pa_nil))) rfl))))
    (pss_cons (ps_set (i := 3) nd rfl (.inl rfl) (pe_callTy call_tuple_of (by rfl) T.n_tuple (by decide +kernel) (pa_cons (LiI.pe_listItems rfl (pe_c c_LThings hr (by decide) (by rfl) (pa_cons (pv 0) (pa_cons pe_str pa_nil))) (by rfl) T.n_list (by decide +kernel)) pa_nil)))
    (pss_cons (ps_set (i := 4) nd rfl (.inl rfl) (pe_c c_LKind hr (by decide) (by rfl) (pa_cons (pv 0) (pa_cons pe_int pa_nil))))
    (pss_one (ps_ret (pe_tup (pa_cons (pv 1) (pa_cons (pv 2) (pa_cons (pe_disp (pps_cons pe_str (pe_tup (pa_cons (pv 3) (pa_cons (pv 4) (pa_cons (pe_tup (pa_cons (pe_tup (pa_cons pe_str (pa_cons pe_int pa_nil))) pa_nil)) pa_nil)))) (pps_cons pe_str (pe_tup (pa_cons (pe_tup pa_nil) (pa_cons (pv 4) (pa_cons (pe_tup (pa_cons (pe_tup (pa_cons pe_str (pa_cons pe_int pa_nil))) pa_nil)) pa_nil)))) pps_nil)) (by rfl) (by rfl) (fun z => by cases z) (by decide)) pa_nil))))))))))), ?_⟩
    have sz : ∀ n : Nat, n ≤ 10 → n ≤ sizeLine := fun n hn => by omega
    intro kd hkd
    refine ⟨sz _ (by simp), fun t1 h1 => ⟨sz _ (by simp), fun t2 h2 => ⟨sz _ (by simp), fun t3 h3 => ?_⟩⟩⟩
    have s3 := ((Same.new (o := .tup [.str "number"]) h1).trans (Same.new (o := .tup [.str "a", .ref t1]) h2)).trans (Same.new (o := .tup [.ref t2]) h3)
    refine ⟨s3 _ _ upd_same, [(.inr "k", .ref t3)], rfl, by simp, ?_⟩
    have g0 : Go p H (upd _ kd (.dK (mergeK [] [((Sum.inr "k" : Key), V.ref t3)]))) := Go.putNew hp hkd s3
    generalize upd _ kd (.dK (mergeK [] [((Sum.inr "k" : Key), V.ref t3)])) = H1 at *
    clear s3 h1 h2 h3
    intro b hb
    have hbH : H b = none := by
      cases c : H b with
      | none => rfl
      | some o => rw [g0.1 b o (fun z => by rw [z] at hb; obtain ⟨x, y, a, _⟩ := g0.2; rw [a] at hb; cases hb) c] at hb; cases hb
    have nbp := g0.ne hb
    have g1 := g0.new (o := .dK []) hb
    refine ⟨_, rfl, p, "qpds", rfl, g1.2, by decide +kernel, by decide +kernel, by decide +kernel, fun e kvs ks H2 nep he hat hR hok g2 => ⟨e, .dK kvs, rfl, hat, True.intro, fun od => ⟨e, od, kvs, rfl, upd_same, ?_⟩⟩⟩
    have neb : e ≠ b := fun z => by rw [z, upd_same] at he; cases he
    have heH : H e = none := by
      cases c : H e with
      | none => rfl
      | some o => rw [g1.1 e o nep c] at he; cases he
    have gf : Go p H (upd H2 e (.frz od (.dK kvs))) := Go.put2 heH nep (g1.trans g2)
    have hbf : (upd H2 e (.frz od (.dK kvs))) b = some (.dK []) := by rw [upd_ne neb.symm]; exact g2.at nbp upd_same
    have hRf : Rk (upd H2 e (.frz od (.dK kvs))) kvs ks := hR.mono (TupS.dput hat)
    have hef : (upd H2 e (.frz od (.dK kvs))) e = some (.frz od (.dK kvs)) := upd_same
    generalize upd H2 e (.frz od (.dK kvs)) = H3 at *
    have hkl := Paired.length hR
    refine for_it (walk_items (d := e) (o := od) (kvs := kvs)) (fun i σ H' => ∃ (o5 o6 : Option V) (kvb : List (Key × V)) (bs : List (Str × PyData)), σ = [some (.ref p), some (.ref kd), some (.ref b), none, none, o5, o6] ∧ H' b = some (.dK kvb) ∧ Rb H' kvb bs ∧
        bs.map (·.1) = (ks.take i).map (·.1) ∧ H' e = some (.frz od (.dK kvs)) ∧ Rk H' kvs ks ∧ Go p H H')
      ⟨_, _, [], [], rfl, hbf, .nil, rfl, hef, hRf, gf⟩ (fun i σ H' _ hW => by obtain ⟨_, _, _, _, _, _, _, _, h, _⟩ := hW; exact h) (fun i x σ H4 H5 hi hW hY => ?_) (fun σ H4 hW => ?_)
    · obtain ⟨o5, o6, kvb, bs, rfl, hb4, hB4, hbs, he4, hR4, g4⟩ := hW
      obtain ⟨T9, x9, y9, rfl, hT9, rfl, hx9, hy9⟩ := hY
      have hil : i < kvs.length := hi
      obtain ⟨q9, hq9⟩ : ∃ q9, kvs[i]? = some q9 := ⟨_, List.getElem?_eq_getElem hil⟩
      have hx9 : (kvs[i]?.map fun kv => kV kv.1) = some x9 := hx9
      have hy9 : kvs[i]?.map Prod.snd = some y9 := hy9
      rw [hq9] at hx9 hy9
      obtain ⟨a9, ha9, e9, td9⟩ := LiI.paired_get hR4 hq9
      obtain ⟨nm9, k9⟩ := a9
      have ex9 : x9 = .str nm9 := by
        have h := Option.some.inj hx9
        rw [← h]
        show kV q9.1 = _
        rw [e9]
        rfl
      have ey9 : y9 = q9.2 := (Option.some.inj hy9).symm
      subst ex9 ey9
      have am9 := List.mem_of_getElem? ha9
      have ok9 := hok.ok _ am9
      refine ⟨T9, _, rfl, SqT.of upd_same, rfl, _, _, rfl, _, _, rfl, rfl, ?_⟩
      have sT : Same H4 (upd H4 T9 (.tup [.str nm9, q9.2])) := Same.new hT9
      have g5 := g4.new (o := .tup [.str nm9, q9.2]) hT9
      have td9 := td9.mono (TupS.same sT)
      have hb5 := sT _ _ hb4
      have hB5 := hB4.mono (TupS.same sT)
      have he5 := sT _ _ he4
      have hR5 := hR4.mono (TupS.same sT)
      generalize upd H4 T9 (.tup [.str nm9, q9.2]) = H5 at *
      refine ⟨fun m σ H' => ∃ (kv : V) (k : Kd), σ = [some (.ref p), some (.ref kd), some (.ref b), none, none, some (.str nm9), some kv] ∧ Td H' kv k.d ∧ k.ok ∧ k.deep ≤ 3 ∧ m = rcdN k ∧ Same H5 H', ⟨_, q9.2, k9, rfl, td9, ok9.1, ok9.2, rfl, Same.refl _⟩, ?_⟩
      rintro m σ H6 ⟨kv, k, rfl, tdk, okk, dk, rfl, s6⟩
      obtain ⟨ka, kxs, rfl, hka, hk0⟩ := tk_word tdk
      refine ⟨_, rfl, ka, kxs, 0, _, rfl, rfl, SqT.of hka, atI_nat (j := 0) hk0, rfl, _, rfl, ?_⟩
      rcases Nat.eq_zero_or_pos (rcdN k) with hz | hz
      · refine iteF' (tk_not hz) ?_
        have g6 := g5.same s6
        refine ⟨_, rfl, _, rfl, _, rfl, p, _, k, rfl, tdk, by omega, g6.2, fun u du H7 tdu vdu oku g7 => ⟨sz _ (by simp), fun t ht => ?_⟩⟩
        have hb7 : H7 b = some (.dK kvb) := g7.at nbp (s6 _ _ hb5)
        have s8 : Same H7 (upd H7 t (.tup [.ref ka, u])) := Same.new ht
        have hknew : nm9 ∉ bs.map (·.1) := fun hm => by
          rw [hbs] at hm
          obtain ⟨y, hy, ey⟩ := List.mem_map.mp hm
          obtain ⟨j, hj, ej⟩ := List.mem_iff_getElem.mp hy
          rw [List.length_take] at hj
          rw [List.getElem_take] at ej
          have il : i < ks.length := by omega
          refine absurd ?_ (List.pairwise_iff_getElem.mp hok.nd j i (by rw [List.length_map]; omega) (by rw [List.length_map]; exact il) (by omega))
          rw [List.getElem_map, List.getElem_map, ej, ey, (List.getElem?_eq_some_iff.mp ha9).2]
        have hbl : kvb.length ≤ 10 := by
          have h1 := Paired.length hB4
          have h2 := congrArg List.length hbs
          have h3 := hok.len
          rw [List.length_map, List.length_map, List.length_take] at h2
          omega
        refine ⟨_, rfl, _, rfl, b, _, rfl, DPut.k (k := Sum.inr nm9) (s8 _ _ hb7) (by omega), ?_⟩
        rw [putK_new _ (notin_valV hB4.keys hknew)]
        have U := TupS.dput (o := .dK (kvb ++ [(Sum.inr nm9, V.ref t)])) (s8 _ _ hb7)
        have u57 := ((TupS.same s6).trans (g7.tups g6.2)).trans ((TupS.same s8).trans U)
        refine ⟨_, _, kvb ++ [(Sum.inr nm9, V.ref t)], bs ++ [(nm9, du)], rfl, upd_same, ?_, ?_, ?_, hR5.mono u57, ?_⟩
        · refine paired_snoc (hB5.mono u57) ⟨rfl, t, .ref ka, u, rfl, U _ _ upd_same, tdu.mono ((TupS.same s8).trans U), vdu, oku.mono (by omega) ?_⟩
          exact Nat.le_trans (wv_mono dk) (by decide)
        · rw [List.map_append, hbs, take_succ ha9, List.map_append]
          rfl
        · rw [upd_ne neb]
          exact s8 _ _ (g7.at nep (s6 _ _ he5))
        · exact Go.put2 hbH nbp ((g6.trans g7).new ht)
      · cases k with
        | rcd z =>
          refine iteT' (by show decide (V.str "record" = V.str "record") = true; decide +kernel) ⟨_, fun σ' H' h => h, ?_⟩
          exact ⟨_, rfl, sz _ (by simp), fun t ht => ⟨0, hz, .ref t, .lst (.rcd z), rfl, .newT ht (.cons (.str _) (.cons tdk .nil)), okk, (by show 0 + 1 ≤ 3; omega), rfl, s6.trans (Same.new ht)⟩⟩
        | num => exact absurd hz (by decide)
        | tru => exact absurd hz (by decide)
        | lst k => exact absurd hz (by show ¬ (0 > 0); decide)
    · obtain ⟨o5, o6, kvb, bs, rfl, hb4, hB4, hbs, he4, hR4, g4⟩ := hW
      rw [hkl, List.take_of_length_le (Nat.le_refl _)] at hbs
      have bok : BOk bs := by
        refine ⟨by rw [hbs]; exact hok.nd, fun a ha => ?_, ?_⟩
        · have : a.1 ∈ bs.map (·.1) := List.mem_map_of_mem ha
          rw [hbs] at this
          obtain ⟨y, hy, ey⟩ := List.mem_map.mp this
          rw [← ey]
          exact hok.nm y hy
        · have h2 := congrArg List.length hbs
          rw [List.length_map, List.length_map] at h2
          have := hok.len
          omega
      refine ⟨_, rfl, p, "zyxwvu", rfl, g4.2, by decide +kernel, by decide +kernel, by decide +kernel, fun e2 kv2 ks2 H5 ne2 he2 hat2 hR2 hok2 g5 => ⟨e2, kv2, rfl, hat2, fun H6 l as sm hl has hnl hlat hpr => ⟨l, _, rfl, .inl ⟨SqL.of hlat, fun tt htt => ?_⟩⟩⟩⟩
      have Tts : Td (upd H6 tt (.tup (as.map V.ref))) (.ref tt) (.tuple (ks2.map takeD)) := .newT htt (tdAll_items hpr (hR2.mono (TupS.same sm)))
      have g6 : Go p H (upd H6 tt (.tup (as.map V.ref))) := ((g4.trans g5).same sm).new htt
      have hb6 : (upd H6 tt (.tup (as.map V.ref))) b = some (.dK kvb) := Same.new htt _ _ (sm _ _ (g5.at nbp hb4))
      have hB6 : Rb (upd H6 tt (.tup (as.map V.ref))) kvb bs := hB4.mono ((g5.tups g4.2).trans ((TupS.same sm).trans (TupS.new htt)))
      generalize upd H6 tt (.tup (as.map V.ref)) = H7 at *
      refine ⟨_, rfl, p, 2, rfl, by decide, g6.2, fun gv g H8 gok gdeep gT g8 => ?_⟩
      have Tts := Tts.mono (g8.tups g6.2)
      have hb8 := g8.at nbp hb6
      have hB8 := hB6.mono (g8.tups g6.2)
      have g9 := g6.trans g8
      refine ⟨_, rfl, _, rfl, fun d hd => ?_⟩
      have ndp := g9.ne hd
      have nbd : b ≠ d := ne_some hb8 hd
      refine ⟨_, rfl, _, rfl, sz _ (by simp), fun u1 h1 => ⟨sz _ (by simp), fun u2 h2 => ⟨sz _ (by simp), fun u3 h3 => ?_⟩⟩⟩
      have A1 := Td.newT h1 (.cons (.str "go") (.cons (.int 0) .nil))
      have A2 := Td.newT h2 (.cons A1 .nil)
      have U2 := (TupS.new (o := .dK []) hd).trans ((TupS.new (o := .tup [.str "go", .int 0]) h1).trans (TupS.new (o := .tup [.ref u1]) h2))
      have A3 := Td.newT h3 (.cons (Tts.mono U2) (.cons (gT.mono U2) (.cons A2 .nil)))
      have S3 := ((Same.new (o := .tup [.str "go", .int 0]) h1).trans (Same.new (o := .tup [.ref u1]) h2)).trans (Same.new (o := .tup [.ref tt, gv, .ref u2]) h3)
      have gT3 := (gT.mono U2).mono (TupS.new (o := .tup [.ref tt, gv, .ref u2]) h3)
      generalize upd (upd (upd (upd H8 d (.dK [])) u1 (.tup [.str "go", .int 0])) u2 (.tup [.ref u1])) u3 (.tup [.ref tt, gv, .ref u2]) = H9 at *
      clear A1 A2 h1 h2 h3 U2
      refine ⟨sz _ (by simp), fun w0 k0 => ⟨_, rfl, sz _ (by simp), fun w1 k1 => ⟨sz _ (by simp), fun w2 k2 => ⟨sz _ (by simp), fun w3 k3 => ?_⟩⟩⟩⟩
      have B0 := Td.newT k0 .nil
      have B1 := Td.newT k1 (.cons (.str "go") (.cons (.int 0) .nil))
      have B2 := Td.newT k2 (.cons B1 .nil)
      have V2 := (TupS.new (o := .tup [.str "go", .int 0]) k1).trans (TupS.new (o := .tup [.ref w1]) k2)
      have B3 := Td.newT k3 (.cons (B0.mono V2) (.cons (gT3.mono ((TupS.new (o := .tup []) k0).trans V2)) (.cons B2 .nil)))
      have S4 := (((Same.new (o := .tup []) k0).trans (Same.new (o := .tup [.str "go", .int 0]) k1)).trans (Same.new (o := .tup [.ref w1]) k2)).trans (Same.new (o := .tup [.ref w0, gv, .ref w2]) k3)
      have A4 := A3.mono (TupS.same S4)
      have S5 := S3.trans S4
      generalize upd (upd (upd (upd H9 w0 (.tup [])) w1 (.tup [.str "go", .int 0])) w2 (.tup [.ref w1])) w3 (.tup [.ref w0, gv, .ref w2]) = H10 at *
      have hd10 : H10 d = some (.dK []) := S5 _ _ upd_same
      refine ⟨hd10, [(.inr "main", .ref u3), (.inr "m", .ref w3)], rfl, by simp, ?_⟩
      have em : mergeK [] [((Sum.inr "main" : Key), V.ref u3), ((Sum.inr "m" : Key), V.ref w3)] = [((Sum.inr "main" : Key), V.ref u3), (Sum.inr "m", V.ref w3)] := by rfl
      rw [em]
      have UX := TupS.dput (o := .dK [((Sum.inr "main" : Key), V.ref u3), ((Sum.inr "m" : Key), V.ref w3)]) hd10
      have gd : Go p H (upd H10 d (.dK [((Sum.inr "main" : Key), V.ref u3), ((Sum.inr "m" : Key), V.ref w3)])) := g9.trans (Go.putNew g9.2 hd S5)
      have hb10 : (upd H10 d (.dK [((Sum.inr "main" : Key), V.ref u3), ((Sum.inr "m" : Key), V.ref w3)])) b = some (.dK kvb) := by
        rw [upd_ne nbd]
        exact S5 _ _ (by rw [upd_ne nbd]; exact hb8)
      have UB := (((TupS.new (o := .dK []) hd).trans (TupS.same S5)).trans UX)
      refine ⟨sz _ (by simp), fun a ha => ?_⟩
      have s11 := Same.new (o := .tup [.ref kd, .ref b, .ref d]) ha
      have hdH : H d = none := by
        cases c : H d with
        | none => rfl
        | some o => rw [g9.1 d o ndp c] at hd; cases hd
      exact q a b d kvb bs (.ref u3) (.ref w3) ks2 g _ nbp ndp ⟨⟨kd, upd_same⟩, s11 _ _ hb10, hB8.mono (UB.trans (TupS.same s11)), bok, s11 _ _ upd_same, A4.mono (UX.trans (TupS.same s11)), B3.mono (UX.trans (TupS.same s11)), hok2, gok, by omega⟩ (gd.new ha) hbH hdH
end
end K43
set_option Elab.async false
set_option linter.all false
set_option maxRecDepth 100000
set_option maxHeartbeats 2000000
namespace K43
open PySem PySem.Spec PyProof.Rows L2 KD
open C8 (Cal Def cal0 pe_c fnBody fnScope fnArgs)
theorem take_at {H : Hp} {v : V} {a : Str × Kd} (h : Td H v (takeD a)) : ∃ t kv, v = .ref t ∧ H t = some (.tup [.str a.1, kv]) ∧ Td H kv a.2.d := by
  cases h with
  | @tup t xs _ hq ha => cases ha with
    | cons h1 h2 =>
      cases h1
      cases h2 with
      | cons h3 h4 => cases h4; exact ⟨t, _, rfl, hq, h3⟩
theorem Go.old {p l : Addr} {H H' : Hp} (g : Go p H H') (hn : H' l = none) : H l = none := by
  cases c : H l with
  | none => rfl
  | some o => rw [g.1 l o (g.ne hn) c] at hn; cases hn
/-- a list of values at L -/
structure LV (m : Nat) (p : Addr) (H : Hp) (L : Addr) (vs : List V) (H' : Hp) : Prop where
  at_ : H' L = some (.lst vs)
  vd : ∀ v ∈ vs, Vd 4 5000 H' v
  ln : vs.length ≤ m
  np : L ≠ p
  new : H L = none
  go : Go p H H'
theorem LV.on {m : Nat} {p L : Addr} {H H' H'' : Hp} {vs : List V} (h : LV m p H L vs H') (g : Go p H' H'') : LV m p H L vs H'' :=
  ⟨g.at h.np h.at_, fun v hv => (h.vd v hv).mono (g.tups h.go.2), h.ln, h.np, h.new, h.go.trans g⟩
theorem LV.put {m m' : Nat} {p L : Addr} {H H' : Hp} {vs us : List V} (h : LV m p H L vs H') (hu : ∀ u ∈ us, Vd 4 5000 H' u) (hl : us.length ≤ m') : LV m' p H L us (upd H' L (.lst us)) :=
  ⟨upd_same, fun u hu' => (hu u hu').mono (TupS.put h.at_), hl, h.np, h.new, Go.put2 h.new h.np h.go⟩
theorem LV.newL {m m' : Nat} {p L l : Addr} {H H' : Hp} {vs us : List V} (h : LV m p H L vs H') (hn : H' l = none) (hu : ∀ u ∈ us, Vd 4 5000 H' u) (hl : us.length ≤ m') : LV m' p H l us (upd H' l (.lst us)) :=
  ⟨upd_same, fun u hu' => (hu u hu').mono (TupS.new hn), hl, h.go.ne hn, Go.old h.go hn, h.go.new hn⟩
theorem ixN_n {n j : Nat} (h : j < n) : ixN n (j : Int) = some j := by
  unfold ixN
  rw [if_pos (by omega), if_pos (by omega), Int.toNat_natCast]
theorem Vd.str {n m : Nat} {H : Hp} {z : Str} (h1 : rfS z = true) (h2 : z.length ≤ m) (h3 : asc z = true) : Vd n m H (.str z) := ⟨.str z, .str z, by simpa [vv] using h1, .str h2 (asc_of h3)⟩
theorem mem_set {vs : List V} {j : Nat} {v u : V} (h : u ∈ vs.set j v) : u ∈ vs ∨ u = v := List.mem_or_eq_of_mem_set h
section
variable {P : Program} {w : World} {K : PySem.W.Frag} {mg : Str → Option Value} {base : Heap}
abbrev sLValues : Stmt := topS 29
abbrev NLValues : List Str := ["_law_pot_here", "_law_takes", "_law_values_here", "_law_way", "_law_name", "_law_kind_here"]
theorem scLValues : FnScope NLValues ["_law_pot_here", "_law_takes"] (fnScope sLValues) := ⟨rfl, rfl, rfl, by decide +kernel, rfl, by decide +kernel, by decide +kernel⟩
def spValues : Sp := fun vs H Q _ => ∃ (p : Addr) (tv : V) (ts : List (Str × Kd)), vs = [.ref p, tv] ∧ Pt H p ∧ Td H tv (.tuple (ts.map takeD)) ∧ KOk 10 ts ∧ ∀ a ds H', Td H' (.ref a) (.tuple ds) → vvs ds = true → ds.length ≤ 11 → OkAll 4 100000 ds → Go p H H' → Q (.ref a) H'
theorem c_values (T : Tp mg) (c_LTake : Cal P w K mg base 1 "_law_take" spTake []) (c_LPlain : Cal P w K mg base 6 "_law_plain" (spPlain 4) []) (c_LKind : Cal P w K mg base 6 "_law_kind" (spKind 4) [])
    {f : Addr} {fd : FuncData} (D : Def K mg "_law_values" sLValues f fd) (b : Binds K fd ["_law_pot_here", "_law_takes"] []) : Cal P w K mg base 7 "_law_values" spValues [] := by
  refine cal0 D b .nil scLValues (fun vs H Q E h => ?_) (fun cdv A outer s H vs Q E hr h => ?_)
  · obtain ⟨p, tv, ts, rfl, _⟩ := h
    rfl
  · obtain ⟨p, tv, ts, rfl, hp, htv, hok, q⟩ := h
    have nd := scLValues.nd
    have line := sizeLine_eq
    have hin := hin_of hr
    have hnil : (A.deeper (envOfC "_law_values" (fnScope sLValues) s.heap.objs.size f cdv)).units + 64 < cLine := by omega
    refine ⟨_, (C8.pss_cut (ps_setLc (i := 2) (own := [("_law_name", 4), ("_law_kind_here", 5)]) (g := gTup K 2 (gCons (gName 4) (gCons (gName 5) gNil))) rfl nd rfl rfl (sw_true rfl rfl rfl (by decide +kernel)) (pi_tup (pv 1)) (blkOk_by (own := [("_law_name", 4), ("_law_kind_here", 5)]) (N := NLValues) (sc := fnScope sLValues) (by decide +kernel)) (fun _ _ _ _ _ => (pg_tup (n := 2) rfl (pgs_cons (pg_name (i := 4) nd rfl (Or.inl rfl)) (pgs_cons (pg_name (i := 5) nd rfl (Or.inl rfl)) pgs_nil)))) (fun _ _ _ _ _ => pts_nil) (fun _ _ _ _ _ => (pe_c c_LPlain hr (by decide) (by rfl) (pa_cons (pv 0) (pa_cons (pv 5) pa_nil)))))
    (pss_cons (ps_set (i := 3) nd rfl (.inl rfl) (pe_c c_LTake hr (by decide) (by rfl) (pa_cons (pv 0) (pa_cons pe_int pa_nil))))
    (C8.pss_cut (ps_if (PW.pt (pw_and (pt_cmpR op_eq (pv 3) pe_int (nomark _)) (pw_and1 (pt_cmpR (op_neNil hnil) (pv 2) (pe_lst pa_nil) (nomark _)))))
      (pss_one (ps_asg (pe_c c_LPlain hr (by decide) (by rfl) (pa_cons (pv 0) (pa_cons (pe_c c_LKind hr (by decide) (by rfl) (pa_cons (pv 0) (pa_cons pe_int pa_nil))) pa_nil))) (pg_sub (pv 2) (pe_c c_LTake hr (by decide) (by rfl) (pa_cons (pv 0) (pa_cons (pe_callB call_len_seq (by rfl) T.n_len (by decide +kernel) (pa_cons (pv 2) pa_nil)) pa_nil))) set_list)))
      pss_nil)
    (C8.pss_cut (ps_if (pt_cmpR op_eq (pv 3) pe_int (nomark _))
      (pss_one (ps_set (i := 2) nd rfl (.inl rfl) (pe_slice sl_list (pv 2) (po_some pe_int) po_none)))
      pss_nil)
    (C8.pss_cut (ps_if (pt_cmpR op_eq (pv 3) pe_int (nomark _))
      (pss_one (ps_set (i := 2) nd rfl (.inl rfl) (pe_op op_cat (pv 2) (pe_lst (pa_cons (pe_c c_LPlain hr (by decide) (by rfl) (pa_cons (pv 0) (pa_cons (pe_tup (pa_cons pe_str pa_nil)) pa_nil))) pa_nil)))))
      pss_nil)
    (C8.pss_cut (ps_if (PW.pt (pw_and (pt_cmpR op_eq (pv 3) pe_int (nomark _)) (pw_and1 (pt_cmpR (op_neNil hnil) (pv 2) (pe_lst pa_nil) (nomark _)))))
      (pss_one (ps_asg (pe_ix ix_list (pe_lst (pa_cons pe_str (pa_cons (pe_tup (pa_cons pe_str pa_nil)) (pa_cons (pe_tup (pa_cons (pe_tup (pa_cons pe_str pa_nil)) (pa_cons (pe_tup pa_nil) pa_nil))) pa_nil)))) (pe_c c_LTake hr (by decide) (by rfl) (pa_cons (pv 0) (pa_cons pe_int pa_nil))) (fun _ _ => rfl)) (pg_sub (pv 2) (pe_c c_LTake hr (by decide) (by rfl) (pa_cons (pv 0) (pa_cons (pe_callB call_len_seq (by rfl) T.n_len (by decide +kernel) (pa_cons (pv 2) pa_nil)) pa_nil))) set_list)))
      pss_nil)
    (pss_one (ps_ret (pe_callTy call_tuple_of (by rfl) T.n_tuple (by decide +kernel) (pa_cons (pv 2) pa_nil)))))))))), ?_⟩
    have sz : ∀ n : Nat, n ≤ 10 → n ≤ sizeLine := fun n hn => by omega
    have ten : wv 3 ≤ 5000 := by decide
    refine ⟨fun σ H' => ∃ L vs, σ = [some (.ref p), some tv, some (.ref L), none, none, none] ∧ LV 10 p H L vs H', ?_, ?_⟩
    · cases htv with
      | @tup tt xs _ htt hxs =>
        refine ⟨_, rfl, tt, rfl, ⟨xs, SqT.of htt⟩, fun Dl hDl => ?_⟩
        have nD := hp.ne hDl
        have hxl := hxs.len
        rw [List.length_map] at hxl
        have hkl := hok.len
        refine lc_tup (xs := xs) (fun i H' => ∃ vs, H' Dl = some (.lst vs) ∧ vs.length = i ∧ (∀ v ∈ vs, Vd 4 5000 H' v) ∧ Go p H H') ⟨[], upd_same, rfl, (fun v hv => nomatch hv), But.new hDl, hp.new hDl⟩ (fun i H' hi hW => ?_) (fun i x H' hx hW => ?_) (fun H' hW => ?_)
        · obtain ⟨vs, hat, hl, hT, g⟩ := hW
          exact SqT.of (g.tups hp _ _ htt)
        · obtain ⟨vs, hat, hl, hT, g⟩ := hW
          obtain ⟨d9, hd9, td9⟩ := tdAll_at hxs hx
          rw [List.getElem?_map] at hd9
          obtain ⟨a9, ha9, rfl⟩ : ∃ a, ts[i]? = some a ∧ takeD a = d9 := by
            cases c : ts[i]? with
            | none => rw [c] at hd9; cases hd9
            | some a => rw [c] at hd9; exact ⟨a, rfl, Option.some.inj hd9⟩
          have hil := (List.getElem?_eq_some_iff.mp ha9).1
          have ok9 := hok.ok _ (List.mem_of_getElem? ha9)
          obtain ⟨t9, kv9, rfl, ht9, tk9⟩ := take_at (td9.mono (g.tups hp))
          refine ⟨t9, _, rfl, SqT.of ht9, rfl, _, _, rfl, _, _, rfl, rfl, rfl, ?_⟩
          unfold tYes; dsimp only
          rw [if_pos rfl]
          refine ⟨_, rfl, _, rfl, p, kv9, a9.2, rfl, tk9, by omega, g.2, fun v d H3 t1 t2 t3 g3 => ?_⟩
          have hat3 : H3 Dl = some (.lst vs) := g3.at nD hat
          refine ⟨vs, hat3, by omega, vs ++ [v], upd_same, by rw [List.length_append, hl]; rfl, fun u hu => ?_, Go.put2 hDl nD (g.trans g3)⟩
          rcases List.mem_append.mp hu with hu | hu
          · exact ((hT u hu).mono (g3.tups g.2)).mono (TupS.put hat3)
          · rw [List.mem_singleton.mp hu]
            exact ⟨d, t1.mono (TupS.put hat3), t2, t3.mono (by omega) (Nat.le_trans (wv_mono ok9.2) ten)⟩
        · obtain ⟨vs, hat, hl, hT, g⟩ := hW
          exact ⟨Dl, vs, rfl, hat, hT, by omega, nD, hDl, g⟩
    rintro σ H1 ⟨L, vs, rfl, R1⟩
    refine ⟨_, rfl, p, 8, rfl, R1.go.2, by decide, by decide, fun r H2 r0 r1 g2 => ?_⟩
    have R2 := R1.on g2
    clear r0 r1
    generalize hM : (fun (m : Nat) (σ : L2.St) (H' : Hp) => ∃ L vs, σ = [some (V.ref p), some tv, some (.ref L), some (.int r), none, none] ∧ LV m p H L vs H') = M
    have toM : ∀ {m : Nat} {L : Addr} {vs : List V} {H' : Hp}, LV m p H L vs H' → M m [some (V.ref p), some tv, some (.ref L), some (.int r), none, none] H' := fun R => by rw [← hM]; exact ⟨_, _, rfl, R⟩
    have ofM : ∀ {m : Nat} {σ : L2.St} {H' : Hp}, M m σ H' → ∃ L vs, σ = [some (V.ref p), some tv, some (.ref L), some (.int r), none, none] ∧ LV m p H L vs H' := fun h => by rw [← hM] at h; exact h
    clear hM
    refine ⟨M 10, ?_, fun σ H3 m3 => ?_⟩
    · refine ⟨_, rfl, rfl, _, rfl, ite2 (fun e => ?_) (fun e => iteF (toM R2))⟩
      refine ⟨_, rfl, (by show 0 ≤ sizeLine; omega), fun l hl => ⟨L, l, vs, rfl, rfl, SqL.of (R2.on ((Go.refl R2.go.2).new (o := .lst []) hl)).at_, SqL.of upd_same, _, rfl, ite2 (fun e2 => ?_) (fun e2 => toM (R2.on ((Go.refl R2.go.2).new (o := .lst []) hl)))⟩⟩
      have R := R2.on ((Go.refl R2.go.2).new (o := .lst []) hl)
      have hne : 0 < vs.length := by
        cases vs with
        | nil => exact absurd e2 (by decide)
        | cons v vs => exact Nat.succ_pos _
      refine ⟨_, rfl, _, rfl, p, 2, rfl, by decide, R.go.2, fun kv k H3 ok dp tk g3 => ⟨p, kv, k, rfl, tk, by omega, g3.2, fun u d H4 t1 t2 t3 g4 => ?_⟩⟩
      have R4 := (R.on g3).on g4
      refine ⟨_, rfl, _, rfl, _, rfl, L, _, rfl, .inl (SqL.of R4.at_), p, _, rfl, R4.go.2, by omega, small300 (by omega) (by have := R4.ln; omega), fun j H5 j0 j1 g5 => ?_⟩
      have R5 := R4.on g5
      obtain ⟨j', rfl⟩ : ∃ j' : Nat, j = (j' : Int) := ⟨j.toNat, by omega⟩
      refine ⟨L, vs, _, j', rfl, rfl, R5.at_, ixN_n (by omega), toM (R5.put (fun x hx => ?_) (by rw [List.length_set]; exact R5.ln))⟩
      rcases mem_set hx with hx | rfl
      · exact R5.vd x hx
      · exact ⟨d, t1.mono (g5.tups g4.2), t2, t3.mono (by omega) (Nat.le_trans (wv_mono (show k.deep ≤ 3 by omega)) ten)⟩
    obtain ⟨L3, vs3, rfl, R3⟩ := ofM m3
    refine ⟨M 10, ?_, fun σ H4 m4 => ?_⟩
    · refine ⟨_, rfl, rfl, _, rfl, ite2 (fun e => ?_) (fun e => toM R3)⟩
      refine ⟨_, rfl, _, rfl, L3, vs3, rfl, SqL.of R3.at_, fun l hl => toM (R3.newL hl (fun x hx => R3.vd x ?_) (Nat.le_trans (cutV_length vs3 (some 1) none) R3.ln))⟩
      unfold cutV at hx
      exact List.mem_of_mem_drop (List.mem_of_mem_take hx)
    obtain ⟨L4, vs4, rfl, R4⟩ := ofM m4
    refine ⟨M 11, ?_, fun σ H5 m5 => ?_⟩
    · refine ⟨_, rfl, rfl, _, rfl, ite2 (fun e => ?_) (fun e => toM ⟨R4.at_, R4.vd, by have := R4.ln; omega, R4.np, R4.new, R4.go⟩)⟩
      refine ⟨_, rfl, _, rfl, (by show 1 ≤ sizeLine; omega), fun t1 h1 => ⟨p, .ref t1, .num, rfl, .newT h1 (.cons (.str _) .nil), by decide, (R4.go.new h1).2, fun u d H5 d1 d2 d3 g5 => ⟨(by show 1 ≤ sizeLine; omega), fun l1 hl1 => ?_⟩⟩⟩
      have g4 := (Go.refl R4.go.2).new (o := .tup [.str "number"]) h1
      have R5 := (R4.on g4).on g5
      have R6 := R5.on ((Go.refl R5.go.2).new (o := .lst [u]) hl1)
      refine ⟨L4, l1, vs4, [u], rfl, rfl, R6.at_, upd_same, (by have := R6.ln; show vs4.length + 1 ≤ _; omega), fun l2 hl2 => toM (R6.newL hl2 (fun x hx => ?_) (by rw [List.length_append]; have := R6.ln; show vs4.length + 1 ≤ 11; omega))⟩
      rcases List.mem_append.mp hx with hx | hx
      · exact R6.vd x hx
      · rw [List.mem_singleton.mp hx]
        exact ⟨d, d1.mono (TupS.new hl1), d2, d3.mono (Nat.zero_le _) (by show wv 0 ≤ 5000; decide)⟩
    obtain ⟨L5, vs5, rfl, R5⟩ := ofM m5
    refine ⟨M 11, ?_, fun σ H6 m6 => ?_⟩
    · refine ⟨_, rfl, rfl, _, rfl, ite2 (fun e => ?_) (fun e => iteF (toM R5))⟩
      refine ⟨_, rfl, (by show 0 ≤ sizeLine; omega), fun l hl => ⟨L5, l, vs5, rfl, rfl, SqL.of (R5.on ((Go.refl R5.go.2).new (o := .lst []) hl)).at_, SqL.of upd_same, _, rfl, ite2 (fun e2 => ?_) (fun e2 => toM (R5.on ((Go.refl R5.go.2).new (o := .lst []) hl)))⟩⟩
      have R := R5.on ((Go.refl R5.go.2).new (o := .lst []) hl)
      have hne : 0 < vs5.length := by
        cases vs5 with
        | nil => exact absurd e2 (by decide)
        | cons v vs => exact Nat.succ_pos _
      generalize upd H5 l (.lst []) = H5' at R
      refine ⟨sz _ (by simp), fun t1 h1 => ⟨sz _ (by simp), fun t2 h2 => ⟨sz _ (by simp), fun t3 h3 => ⟨sz _ (by simp), fun t4 h4 => ⟨(by show 3 ≤ sizeLine; omega), fun l1 hl1 => ?_⟩⟩⟩⟩⟩
      have s4 := (((Same.new (o := .tup [.str "r1"]) h1).trans (Same.new (o := .tup [.str "r0"]) h2)).trans (Same.new (o := .tup []) h3)).trans (Same.new (o := .tup [.ref t2, .ref t3]) h4)
      have A1 : Vd 4 5000 _ (.ref t1) := Vd.mono (((TupS.new (o := .tup [.str "r0"]) h2).trans (TupS.new (o := .tup []) h3)).trans (TupS.new (o := .tup [.ref t2, .ref t3]) h4)) ⟨_, .newT h1 (.cons (.str "r1") .nil), (by decide +kernel), (Ok.tup (n := 3) (OkAll.cons (a := 2) (.str (by decide +kernel) (asc_of (by decide +kernel))) (OkAll.nil (m := 0)))).mono (by decide) (by decide)⟩
      have A2 : Vd 4 5000 _ (.ref t4) := ⟨_, .newT h4 (.cons ((Td.newT h2 (.cons (.str "r0") .nil)).mono (TupS.new h3)) (.cons (.newT h3 .nil) .nil)), (by decide +kernel), (Ok.tup (n := 3) (OkAll.cons ((Ok.tup (n := 2) (OkAll.cons (a := 2) (.str (by decide +kernel) (asc_of (by decide +kernel))) (OkAll.nil (m := 0))))) (OkAll.cons (a := 0) ((Ok.tup (n := 0) OkAll.nil).mono (by decide) (Nat.le_refl _)) (OkAll.nil (m := 0))))).mono (by decide) (by decide)⟩
      have A3 : ∀ H9 : Hp, Vd 4 5000 H9 (.str "r0") := fun H9 => Vd.str (by decide +kernel) (by have : (("r0" : Str)).length = 2 := (by decide +kernel); omega) (by decide +kernel)
      have R6 := (R.on ((Go.refl R.go.2).same s4))
      generalize upd (upd (upd (upd H5' t1 (.tup [.str "r1"])) t2 (.tup [.str "r0"])) t3 (.tup [])) t4 (.tup [.ref t2, .ref t3]) = H6' at *
      have R7 := R6.on ((Go.refl R6.go.2).new (o := .lst [.str "r0", .ref t1, .ref t4]) hl1)
      have nl1 := R6.go.ne hl1
      refine ⟨_, rfl, p, 3, rfl, R7.go.2, by decide, by decide, fun j H8 j0 j1 g8 => ?_⟩
      have R8 := R7.on g8
      obtain ⟨u, hu, vu⟩ : ∃ u, atI [V.str "r0", .ref t1, .ref t4] j = some u ∧ Vd 4 5000 H8 u := by
        have up := (TupS.new (o := .lst [.str "r0", .ref t1, .ref t4]) hl1).trans (g8.tups R7.go.2)
        have hc : j = 0 ∨ j = 1 ∨ j = 2 := by omega
        rcases hc with rfl | rfl | rfl
        · exact ⟨_, atI_nat (j := 0) rfl, A3 _⟩
        · exact ⟨_, atI_nat (j := 1) rfl, A1.mono up⟩
        · exact ⟨_, atI_nat (j := 2) rfl, A2.mono up⟩
      refine ⟨l1, _, j, u, rfl, rfl, SqL.of (g8.at nl1 upd_same), hu, ?_⟩
      refine ⟨_, rfl, _, rfl, _, rfl, L5, _, rfl, .inl (SqL.of R8.at_), p, _, rfl, R8.go.2, by omega, small300 (by omega) (by have := R8.ln; omega), fun j2 H9 j20 j21 g9 => ?_⟩
      have R9 := R8.on g9
      obtain ⟨j', rfl⟩ : ∃ j' : Nat, j2 = (j' : Int) := ⟨j2.toNat, by omega⟩
      refine ⟨L5, vs5, _, j', rfl, rfl, R9.at_, ixN_n (by omega), toM (R9.put (fun x hx => ?_) (by rw [List.length_set]; exact R9.ln))⟩
      rcases mem_set hx with hx | rfl
      · exact R9.vd x hx
      · exact vu.mono (g9.tups R8.go.2)
    obtain ⟨L6, vs6, rfl, R6⟩ := ofM m6
    refine ⟨_, rfl, L6, vs6, rfl, .inl ⟨SqL.of R6.at_, fun t ht => ?_⟩⟩
    obtain ⟨ds, d1, d2, d3⟩ := all_vd R6.vd
    have hdl := d1.len
    have hl6 := R6.ln
    exact q t ds _ (.newT ht d1) d2 (by omega) (d3.mono (Nat.le_refl _) (by have := Nat.mul_le_mul_right (5000 + 1) hl6; omega)) (R6.go.new ht)
end
end K43
set_option Elab.async false
set_option linter.all false
set_option maxRecDepth 100000
set_option maxHeartbeats 2000000
/-! zip over any two things that tell their items one by one (a list and a tuple, too); dict(zip(xs, t)), xs a list, t a tuple. -/
namespace MixZ
open PySem
open PySem.Sem (wp)
/-- the iterator at `it` tells what stands in xs, from the k-th on, where S k holds; it reads what is at l -/
structure Src (prog : Program) (w : World) (it l : Addr) (xs : Array Value) (S : Nat → Heap → Prop) : Prop where
  give : ∀ (A : Around) (E : Value → Shared → Prop) (s : Shared) (k : Nat) (x : Value) (Q : Value → Shared → Prop), S k s.heap → xs[k]? = some x → (∀ h', S (k + 1) h' → Heap.SameBut it s.heap h' → Q x { s with heap := h' }) →
    wpAny (model prog w) A (Builtin.SmallTypes.nextOf (.ref it)) Q E s
  stop : ∀ (A : Around) (E : Value → Shared → Prop) (s : Shared) (k : Nat) (Q : Value → Shared → Prop), A.handled = none → S k s.heap → xs[k]? = none →
    (∀ h' e, Heap.ExtBut it s.heap h' → (∃ o, h'.get? e = some o ∧ o.cls = .type "StopIteration") → E (.ref e) { s with heap := h' }) → wpAny (model prog w) A (Builtin.SmallTypes.nextOf (.ref it)) Q E s
  keep : ∀ k h h', S k h → (∀ o, h.get? it = some o → h'.get? it = some o) → (∀ o, h.get? l = some o → h'.get? l = some o) → S k h'
  here : ∀ k h, S k h → (∃ o, h.get? it = some o) ∧ ∃ o, h.get? l = some o
theorem src_list {prog : Program} {w : World} {it l : Addr} {xs : Array Value} (n : l ≠ it) : Src prog w it l xs (fun k h => h.IsListIter it l k ∧ h.IsList l xs) where
  give := fun A E s k x Q st hx hq => wpAny_nextOf_list_item st.1 st.2 hx fun h' a b => hq h' ⟨a, st.2.extBut b.extBut n⟩ b
  stop := fun A E s k Q hh st hx he => wpAny_nextOf_list_end hh st.1 st.2 hx fun h' e b c => he h' e b c
  keep := fun k h h' st a b => ⟨st.1.at a, st.2.at b⟩
  here := fun k h st => by
    obtain ⟨⟨o, a, _⟩, ⟨o2, b, _⟩⟩ := st
    exact ⟨⟨_, a⟩, _, b⟩
theorem src_tup {prog : Program} {w : World} {it l : Addr} {xs : Array Value} (n : l ≠ it) : Src prog w it l xs (fun k h => h.IsTupleIter it l k ∧ h.IsTuple l xs) where
  give := fun A E s k x Q st hx hq => RZ.nextOf_tuple_item st.1 st.2 hx fun h' a b => hq h' ⟨a, st.2.extBut b.extBut n⟩ b
  stop := fun A E s k Q hh st hx he => RZ.nextOf_tuple_end hh st.1 st.2 hx fun h' e b c => he h' e b c
  keep := fun k h h' st a b => ⟨st.1.at a, let ⟨o, x, r⟩ := st.2; ⟨o, b _ x, r⟩⟩
  here := fun k h st => by
    obtain ⟨⟨o, a, _⟩, ⟨o2, b, _⟩⟩ := st
    exact ⟨⟨_, a⟩, _, b⟩
section
variable {prog : Program} {w : World} {A : Around} {E : Value → Shared → Prop} {s : Shared} {z TI TO i1 i2 l1 l2 T : Addr} {k : Nat} {xs ys : Array Value} {S1 S2 : Nat → Heap → Prop} {x y a b : Value} {f : Bool} {oT : Obj}
theorem Src.off {it l c : Addr} {S : Nat → Heap → Prop} {h h' : Heap} (X : Src prog w it l xs S) (st : S k h) (e : Heap.ExtBut c h h') (n1 : it ≠ c) (n2 : l ≠ c) : S k h' := X.keep _ _ _ st (fun o => e _ o n1) (fun o => e _ o n2)
/-- one more, while the tuple T that was given out stands -/
theorem held_item {Q : Value → Shared → Prop} (X1 : Src prog w i1 l1 xs S1) (X2 : Src prog w i2 l2 ys S2) (D : ZipApart z TI TO i1 i2 l1 l2) (zz : IsZipHeld s.heap z TI TO T f) (tT : s.heap.get? T = some oT) (pI : IsPair s.heap TI (.ref i1) (.ref i2))
    (st1 : S1 k s.heap) (st2 : S2 k s.heap) (ex : xs[k]? = some x) (ey : ys[k]? = some y)
    (hq : ∀ h', IsZipHeld h' z TI TO T true → S1 (k + 1) h' → S2 (k + 1) h' → IsPair h' s.heap.objs.size x y → h'.objs.size = s.heap.objs.size + 1 → (∀ c o, c ≠ z → c ≠ i1 → c ≠ i2 → s.heap.get? c = some o → h'.get? c = some o) → Q (.ref s.heap.objs.size) { s with heap := h' }) :
    wpAny (model prog w) A (Builtin.«zip.__next__» ⟨[.ref z], []⟩) (fun fin s' => ∃ v, fin = .done (.ret v) ∧ Q v s') E s := by
  show wpAny _ _ (field (.ref z) 2 >>= _) _ _ _
  refine wpAny_bind (wpAny_field zz rfl (x := .bool false) rfl ?_); show wpAny _ _ (field (.ref z) 3 >>= _) _ _ _
  refine wpAny_bind (wpAny_field zz rfl (x := .ref TI) rfl (wpAny_bind (wpAny_seqItems pI rfl ?_)))
  refine wpAny_bind (wpAny_tupleHeld_zip zz tT fun g1 z1 c1 => ?_)
  simp only [Bool.false_eq_true, if_false]; rw [← Array.forIn_toList]
  simp only [List.forIn_cons, List.forIn_nil]
  refine wpAny_bind (wpAny_bind (wpAny_bind (wpAny_holding ?_))); show wpAny _ _ (Builtin.SmallTypes.nextOf (.ref i1) >>= _) _ _ _
  refine wpAny_bind (X1.give _ _ { s with heap := g1 } k x _ (X1.off st1 c1.extBut D.i1z D.l1z) ex fun g2 st1' c2 => wpAny_pure (wpAny_pure (wpAny_bind (wpAny_bind (wpAny_holding ?_)))))
  show wpAny _ _ (Builtin.SmallTypes.nextOf (.ref i2) >>= _) _ _ _
  have st2' : S2 k g2 := X2.off (X2.off st2 c1.extBut D.i2z D.l2z) c2.extBut D.i12.symm D.l2i1
  refine wpAny_bind (X2.give _ _ { s with heap := g2 } k y _ st2' ey fun g3 st2'' c3 => wpAny_pure (wpAny_pure (wpAny_pure ?_)))
  show wpAny _ _ (newTuple [x, y] >>= _) _ _ _
  refine wpAny_bind (wpAny_newTuple (wpAny_pure ⟨_, rfl, ?_⟩))
  have sz : g3.objs.size = s.heap.objs.size := c3.1.trans (c2.1.trans c1.1)
  have z3 : IsZipHeld g3 z TI TO T true := c3.extBut _ _ D.i2z.symm (c2.extBut _ _ D.i1z.symm z1)
  have up : ∀ c o, c ≠ z → c ≠ i1 → c ≠ i2 → s.heap.get? c = some o → g3.get? c = some o := fun c o n1 n2 n3 e => c3.extBut _ _ n3 (c2.extBut _ _ n2 (c1.extBut _ _ n1 e))
  have st13 : S1 (k + 1) g3 := X1.off st1' c3.extBut D.i12 D.l1i2
  show Q (.ref g3.objs.size) _
  have pT : IsPair (g3.push { cls := .type "tuple", data := .seq #[x, y] }) g3.objs.size x y := Heap.get?_push_size _ rfl
  have more : ∀ c o, g3.get? c = some o → (g3.push { cls := .type "tuple", data := .seq #[x, y] }).get? c = some o := fun c o e => Heap.get?_push_of_some _ e
  have s4 : (g3.push { cls := .type "tuple", data := .seq #[x, y] }).objs.size = g3.objs.size + 1 := Heap.size_push ..
  rw [sz] at pT s4 ⊢
  exact hq _ (more _ _ z3) (X1.keep _ _ _ st13 (more _) (more _)) (X2.keep _ _ _ st2'' (more _) (more _)) pT s4 fun c o n1 n2 n3 e => more c o (up c o n1 n2 n3 e)
/-- none is left, while T stands -/
theorem held_end {Q : Fin → Shared → Prop} (hh : A.handled = none) (X1 : Src prog w i1 l1 xs S1) (X2 : Src prog w i2 l2 ys S2) (D : ZipApart z TI TO i1 i2 l1 l2) (zz : IsZipHeld s.heap z TI TO T f) (tT : s.heap.get? T = some oT) (pI : IsPair s.heap TI (.ref i1) (.ref i2))
    (st1 : S1 k s.heap) (st2 : S2 k s.heap) (no : xs[k]? = none ∨ ys[k]? = none)
    (he : ∀ h' e, (∀ c o, c ≠ z → c ≠ i1 → c ≠ i2 → s.heap.get? c = some o → h'.get? c = some o) → (∃ o, h'.get? e = some o ∧ o.cls = .type "StopIteration") → E (.ref e) { s with heap := h' }) :
    wpAny (model prog w) A (Builtin.«zip.__next__» ⟨[.ref z], []⟩) Q E s := by
  show wpAny _ _ (field (.ref z) 2 >>= _) _ _ _
  refine wpAny_bind (wpAny_field zz rfl (x := .bool false) rfl ?_); show wpAny _ _ (field (.ref z) 3 >>= _) _ _ _
  refine wpAny_bind (wpAny_field zz rfl (x := .ref TI) rfl (wpAny_bind (wpAny_seqItems pI rfl ?_)))
  refine wpAny_bind (wpAny_tupleHeld_zip zz tT fun g1 z1 c1 => ?_)
  simp only [Bool.false_eq_true, if_false]; rw [← Array.forIn_toList]
  simp only [List.forIn_cons, List.forIn_nil]
  refine wpAny_bind (wpAny_bind (wpAny_bind (wpAny_holding ?_))); show wpAny _ _ (Builtin.SmallTypes.nextOf (.ref i1) >>= _) _ _ _
  have st1' : S1 k g1 := X1.off st1 c1.extBut D.i1z D.l1z
  cases ex : xs[k]? with
  | none => exact wpAny_bind (X1.stop _ _ { s with heap := g1 } k _ hh st1' ex fun g2 e c2 es => he g2 e (fun c o n1 n2 _ q => c2 _ _ n2 (c1.extBut _ _ n1 q)) es)
  | some x =>
    have ey : ys[k]? = none := no.elim (fun q => by rw [ex] at q; cases q) id
    refine wpAny_bind (X1.give _ _ { s with heap := g1 } k x _ st1' ex fun g2 _ c2 => wpAny_pure (wpAny_pure (wpAny_bind (wpAny_bind (wpAny_holding ?_)))))
    show wpAny _ _ (Builtin.SmallTypes.nextOf (.ref i2) >>= _) _ _ _
    have st2' : S2 k g2 := X2.off (X2.off st2 c1.extBut D.i2z D.l2z) c2.extBut D.i12.symm D.l2i1
    exact wpAny_bind (X2.stop _ _ { s with heap := g2 } k _ hh st2' ey fun g3 e c3 es => he g3 e (fun c o n1 n2 n3 q => c3 _ _ n3 (c2.extBut _ _ n2 (c1.extBut _ _ n1 q))) es)
/-- the first one -/
theorem first_item {Q : Value → Shared → Prop} (X1 : Src prog w i1 l1 xs S1) (X2 : Src prog w i2 l2 ys S2) (D : ZipApart z TI TO i1 i2 l1 l2) (zz : IsZip s.heap z TI TO .none) (pI : IsPair s.heap TI (.ref i1) (.ref i2)) (pO : IsPair s.heap TO a b)
    (st1 : S1 k s.heap) (st2 : S2 k s.heap) (ex : xs[k]? = some x) (ey : ys[k]? = some y)
    (hq : ∀ h', IsZip h' z TI TO (rawInt s.heap.objs.size) → S1 (k + 1) h' → S2 (k + 1) h' → IsPair h' s.heap.objs.size x y → h'.objs.size = s.heap.objs.size + 1 → (∀ c o, c ≠ z → c ≠ TO → c ≠ i1 → c ≠ i2 → s.heap.get? c = some o → h'.get? c = some o) → Q (.ref s.heap.objs.size) { s with heap := h' }) :
    wpAny (model prog w) A (Builtin.«zip.__next__» ⟨[.ref z], []⟩) (fun fin s' => ∃ v, fin = .done (.ret v) ∧ Q v s') E s := by
  show wpAny _ _ (field (.ref z) 2 >>= _) _ _ _
  refine wpAny_bind (wpAny_field zz rfl (x := .bool false) rfl ?_); show wpAny _ _ (field (.ref z) 3 >>= _) _ _ _
  refine wpAny_bind (wpAny_field zz rfl (x := .ref TI) rfl (wpAny_bind (wpAny_seqItems pI rfl ?_)))
  show wpAny _ _ (Builtin.SmallTypes.ownedTupleIsFree (.ref z) >>= _) _ _ _; unfold Builtin.SmallTypes.ownedTupleIsFree
  refine wpAny_bind (wpAny_bind (wpAny_field zz rfl (x := .none) rfl (wpAny_pure ?_))); simp only [if_true]
  refine wpAny_bind (wpAny_rule (wpAny_bind (wpAny_field zz rfl (x := .ref TO) rfl (wpAny_bind (wpAny_setField_rec zz (by simp) fun g1 z1 c1 => ?_)))))
  have z1 : IsZip g1 z TI TO .ellipsis := z1
  refine wpAny_bind ?_; simp only [List.zipIdx_cons, List.zipIdx_nil, List.forIn_cons, List.forIn_nil]
  refine wpAny_bind (wpAny_bind (wpAny_onRaise ?_)); show wpAny _ _ (Builtin.SmallTypes.nextOf (.ref i1) >>= _) _ _ _
  refine wpAny_bind (X1.give _ _ { s with heap := g1 } k x _ (X1.off st1 c1.extBut D.i1z D.l1z) ex fun g2 st1' c2 => wpAny_pure ?_)
  have p2 : IsPair g2 TO a b := c2.extBut _ _ D.TOi1 (c1.extBut _ _ D.TOz pO)
  refine wpAny_bind (wpAny_seqItems p2 rfl (wpAny_bind (wpAny_updateSeq_pair p2 fun g3 p3 c3 => wpAny_bind (wpAny_letGo (wpAny_pure ?_)))))
  have p3 : IsPair g3 TO x b := p3
  refine wpAny_bind (wpAny_bind (wpAny_onRaise ?_)); show wpAny _ _ (Builtin.SmallTypes.nextOf (.ref i2) >>= _) _ _ _
  have st2' : S2 k g3 := X2.off (X2.off (X2.off st2 c1.extBut D.i2z D.l2z) c2.extBut D.i12.symm D.l2i1) c3.extBut D.TOi2.symm D.l2TO
  refine wpAny_bind (X2.give _ _ { s with heap := g3 } k y _ st2' ey fun g4 st2'' c4 => wpAny_pure ?_)
  have p4 : IsPair g4 TO x b := c4.extBut _ _ D.TOi2 p3
  refine wpAny_bind (wpAny_seqItems p4 rfl (wpAny_bind (wpAny_updateSeq_pair p4 fun g5 p5 c5 => wpAny_bind (wpAny_letGo (wpAny_pure (wpAny_pure ?_))))))
  have p5 : IsPair g5 TO x y := p5
  refine wpAny_bind (wpAny_seqItems p5 rfl (wpAny_bind (wpAny_newTuple ?_)))
  have sz : g5.objs.size = s.heap.objs.size := c5.1.trans (c4.1.trans (c3.1.trans (c2.1.trans c1.1)))
  have z5 : IsZip g5 z TI TO .ellipsis := c5.extBut _ _ D.TOz.symm (c4.extBut _ _ D.i2z.symm (c3.extBut _ _ D.TOz.symm (c2.extBut _ _ D.i1z.symm z1)))
  have up : ∀ c o, c ≠ z → c ≠ TO → c ≠ i1 → c ≠ i2 → s.heap.get? c = some o → g5.get? c = some o := fun c o n1 n2 n3 n4 e => c5.extBut _ _ n2 (c4.extBut _ _ n4 (c3.extBut _ _ n2 (c2.extBut _ _ n3 (c1.extBut _ _ n1 e))))
  have st15 : S1 (k + 1) g5 := X1.off (X1.off (X1.off st1' c3.extBut D.TOi1.symm D.l1TO) c4.extBut D.i12 D.l1i2) c5.extBut D.TOi1.symm D.l1TO
  have st25 : S2 (k + 1) g5 := X2.off st2'' c5.extBut D.TOi2.symm D.l2TO
  have zlt : z < g5.objs.size := Heap.lt_size z5
  show wpAny _ _ (Builtin.SmallTypes.ownedTupleHandOut (.ref z) (.ref g5.objs.size) >>= _) _ _ _
  refine wpAny_bind ?_; unfold Builtin.SmallTypes.ownedTupleHandOut
  have z6 : IsZip (g5.push { cls := .type "tuple", data := .seq #[x, y] }) z TI TO .ellipsis := Heap.get?_push_of_some _ z5
  refine wpAny_bind (wpAny_setField_rec z6 (by simp) fun g7 z7 c7 => ?_)
  have z7 : IsZip g7 z TI TO (rawInt g5.objs.size) := z7
  refine wpAny_setField_rec z7 (by simp) fun g8 z8 c8 => wpAny_pure ⟨_, rfl, ?_⟩
  have z8 : IsZip g8 z TI TO (rawInt g5.objs.size) := z8
  have on : ∀ c o, c ≠ z → g5.get? c = some o → g8.get? c = some o := fun c o n e => c8.extBut _ _ n (c7.extBut _ _ n (Heap.get?_push_of_some _ e))
  have pT : IsPair g8 g5.objs.size x y := c8.extBut _ _ (Nat.ne_of_gt zlt) (c7.extBut _ _ (Nat.ne_of_gt zlt) (Heap.get?_push_size _ rfl))
  have s8 : g8.objs.size = g5.objs.size + 1 := c8.1.trans (c7.1.trans (Heap.size_push ..))
  show Q (.ref g5.objs.size) _
  rw [sz] at z8 pT s8 ⊢
  exact hq g8 z8 (X1.keep _ _ _ st15 (fun o e => on _ o D.i1z e) fun o e => on _ o D.l1z e) (X2.keep _ _ _ st25 (fun o e => on _ o D.i2z e) fun o e => on _ o D.l2z e) pT s8 fun c o n1 n2 n3 n4 e => on c o n1 (up c o n1 n2 n3 n4 e)
/-- there is none at all -/
theorem first_end {Q : Fin → Shared → Prop} (hh : A.handled = none) (X1 : Src prog w i1 l1 xs S1) (X2 : Src prog w i2 l2 ys S2) (D : ZipApart z TI TO i1 i2 l1 l2) (zz : IsZip s.heap z TI TO .none) (pI : IsPair s.heap TI (.ref i1) (.ref i2)) (pO : IsPair s.heap TO a b)
    (st1 : S1 k s.heap) (st2 : S2 k s.heap) (no : xs[k]? = none ∨ ys[k]? = none)
    (he : ∀ h' e, (∀ c o, c ≠ z → c ≠ TO → c ≠ i1 → c ≠ i2 → s.heap.get? c = some o → h'.get? c = some o) → (∃ o, h'.get? e = some o ∧ o.cls = .type "StopIteration") → E (.ref e) { s with heap := h' }) :
    wpAny (model prog w) A (Builtin.«zip.__next__» ⟨[.ref z], []⟩) Q E s := by
  show wpAny _ _ (field (.ref z) 2 >>= _) _ _ _
  refine wpAny_bind (wpAny_field zz rfl (x := .bool false) rfl ?_); show wpAny _ _ (field (.ref z) 3 >>= _) _ _ _
  refine wpAny_bind (wpAny_field zz rfl (x := .ref TI) rfl (wpAny_bind (wpAny_seqItems pI rfl ?_)))
  show wpAny _ _ (Builtin.SmallTypes.ownedTupleIsFree (.ref z) >>= _) _ _ _; unfold Builtin.SmallTypes.ownedTupleIsFree
  refine wpAny_bind (wpAny_bind (wpAny_field zz rfl (x := .none) rfl (wpAny_pure ?_))); simp only [if_true]
  refine wpAny_bind (wpAny_rule (wpAny_bind (wpAny_field zz rfl (x := .ref TO) rfl (wpAny_bind (wpAny_setField_rec zz (by simp) fun g1 z1 c1 => ?_)))))
  have z1 : IsZip g1 z TI TO .ellipsis := z1
  refine wpAny_bind ?_; simp only [List.zipIdx_cons, List.zipIdx_nil, List.forIn_cons, List.forIn_nil]
  refine wpAny_bind (wpAny_bind (wpAny_onRaise ?_)); show wpAny _ _ (Builtin.SmallTypes.nextOf (.ref i1) >>= _) _ _ _
  have st1' : S1 k g1 := X1.off st1 c1.extBut D.i1z D.l1z
  cases ex : xs[k]? with
  | none =>
    refine wpAny_bind (X1.stop _ _ { s with heap := g1 } k _ hh st1' ex fun g2 e c2 es => ?_)
    obtain ⟨oe, a1, a2⟩ := es
    have z2 : IsZip g2 z TI TO .ellipsis := c2 _ _ D.i1z.symm z1
    have ne : e ≠ z := fun q => by rw [q, z2] at a1; cases a1; simp at a2
    exact wpAny_setField_rec z2 (by simp) fun g3 _ c3 => he g3 e (fun c o n1 _ n3 _ q => c3.extBut _ _ n1 (c2 _ _ n3 (c1.extBut _ _ n1 q))) ⟨oe, c3.extBut _ _ ne a1, a2⟩
  | some x =>
    have ey : ys[k]? = none := no.elim (fun q => by rw [ex] at q; cases q) id
    refine wpAny_bind (X1.give _ _ { s with heap := g1 } k x _ st1' ex fun g2 _ c2 => wpAny_pure ?_)
    have p2 : IsPair g2 TO a b := c2.extBut _ _ D.TOi1 (c1.extBut _ _ D.TOz pO)
    refine wpAny_bind (wpAny_seqItems p2 rfl (wpAny_bind (wpAny_updateSeq_pair p2 fun g3 _ c3 => wpAny_bind (wpAny_letGo (wpAny_pure ?_)))))
    refine wpAny_bind (wpAny_bind (wpAny_onRaise ?_)); show wpAny _ _ (Builtin.SmallTypes.nextOf (.ref i2) >>= _) _ _ _
    have st2' : S2 k g3 := X2.off (X2.off (X2.off st2 c1.extBut D.i2z D.l2z) c2.extBut D.i12.symm D.l2i1) c3.extBut D.TOi2.symm D.l2TO
    refine wpAny_bind (X2.stop _ _ { s with heap := g3 } k _ hh st2' ey fun g4 e c4 es => ?_)
    obtain ⟨oe, a1, a2⟩ := es
    have z4 : IsZip g4 z TI TO .ellipsis := c4 _ _ D.i2z.symm (c3.extBut _ _ D.TOz.symm (c2.extBut _ _ D.i1z.symm z1))
    have ne : e ≠ z := fun q => by rw [q, z4] at a1; cases a1; simp at a2
    exact wpAny_setField_rec z4 (by simp) fun g5 _ c5 => he g5 e (fun c o n1 n2 n3 n4 q => c5.extBut _ _ n1 (c4 _ _ n4 (c3.extBut _ _ n2 (c2.extBut _ _ n3 (c1.extBut _ _ n1 q))))) ⟨oe, c5.extBut _ _ ne a1, a2⟩
theorem next_give {R : Value → Shared → Prop} {Q : Option Value → Shared → Prop} (tz : s.TypeIs (.ref z) "zip")
    (hi : ∀ (A' : Around) (E' : Value → Shared → Prop) (Q' : Value → Shared → Prop), (∀ v s', R v s' → Q' v s') → wpAny (model prog w) A' (Builtin.«zip.__next__» ⟨[.ref z], []⟩) (fun fin s' => ∃ v, fin = .done (.ret v) ∧ Q' v s') E' s) (hq : ∀ v s', R v s' → Q (some v) s') :
    wpAny (model prog w) A (pyNext (.ref z)) Q E s := by
  unfold pyNext
  refine wpAny_bind (wpAny_attempt (wpAny_callSpecial?_slot (name := Str.ofString "__next__") tz F.slot_zip_next (wpAny_call_entry F.slot_zip_next tz F.entry_zip_next (hi _ _ _ fun v s' r => wpAny_pure (hq v s' r)) (F.args_zip_next_1 _))))
theorem next_stop {R : Heap → Prop} {Q : Option Value → Shared → Prop} (hh : A.handled = none) (tz : s.TypeIs (.ref z) "zip")
    (hi : ∀ (A' : Around) (E' : Value → Shared → Prop) (Q' : Fin → Shared → Prop), A'.handled = none → (∀ h' e, R h' → (∃ o, h'.get? e = some o ∧ o.cls = .type "StopIteration") → E' (.ref e) { s with heap := h' }) → wpAny (model prog w) A' (Builtin.«zip.__next__» ⟨[.ref z], []⟩) Q' E' s)
    (hq : ∀ h', R h' → Q none { s with heap := h' }) : wpAny (model prog w) A (pyNext (.ref z)) Q E s := by
  unfold pyNext
  refine wpAny_bind (wpAny_attempt (wpAny_callSpecial?_slot (name := Str.ofString "__next__") tz F.slot_zip_next (wpAny_call_entry F.slot_zip_next tz F.entry_zip_next (hi _ _ _ hh fun h' e r es => ?_) (F.args_zip_next_1 _))))
  obtain ⟨o, a1, a2⟩ := es
  exact wpAny_bind (wpAny_isInstance (T := "StopIteration") (b := true) ⟨o, a1, a2⟩ isSubtype_stop (wpAny_pure (hq _ r)))
/-! ### zip made of a list and a tuple -/
abbrev mz1 (h : Heap) (l1 : Addr) : Heap := h.push { cls := .type "list_iterator", data := .fields #[.ref l1, .int 0 0] }
abbrev mz2 (h : Heap) (l1 l2 : Addr) : Heap := (mz1 h l1).push { cls := .type "tuple_iterator", data := .fields #[.ref l2, .int 0 0] }
abbrev mz3 (h : Heap) (l1 l2 : Addr) : Heap := (mz2 h l1 l2).push { cls := .type "tuple", data := .seq #[.ref h.objs.size, .ref (mz1 h l1).objs.size] }
abbrev mz4 (h : Heap) (l1 l2 : Addr) : Heap := (mz3 h l1 l2).push { cls := .type "tuple", data := .seq #[.none, .none] }
abbrev mz5 (h : Heap) (l1 l2 : Addr) : Heap := (mz4 h l1 l2).push { cls := .type "zip", data := .fields #[.none, .bool false, .bool false, .ref (mz2 h l1 l2).objs.size, .ref (mz3 h l1 l2).objs.size] }
theorem made (l1 l2 : Addr) (xs ys : Array Value) : Meets (Builtin.«zip.__new__» ⟨[.type "zip", .ref l1, .ref l2], []⟩) (fun _ R s => s.heap.IsList l1 xs ∧ s.heap.IsTuple l2 ys ∧ R (.ok (.ret (.ref (mz4 s.heap l1 l2).objs.size))) { s with heap := mz5 s.heap l1 l2 }) :=
  .of_wp fun prog w A R s h => by
    obtain ⟨hp, g, d, tk, os⟩ := s
    obtain ⟨a1, a2, h⟩ := h
    have sub := sub_zip
    have b1 : Heap.IsList (Shared.heap ⟨hp, g, d, tk, os⟩) l1 xs := a1
    have b2 : Heap.IsTuple (Shared.heap ⟨hp.push { cls := .type "list_iterator", data := .fields #[.ref l1, .int 0 0] }, g, d, tk, os⟩) l2 ys := Heap.IsTuple.push a2 _
    wp_walk using wpAny_pyIter_list b1, wpAny_pyIter_tuple b2
    exact ⟨_, rfl, h⟩
theorem call_mix {Q : Value → Shared → Prop} (a1 : s.heap.IsList l1 xs) (a2 : s.heap.IsTuple l2 ys)
    (h : ∀ h', IsZip h' (s.heap.objs.size + 4) (s.heap.objs.size + 2) (s.heap.objs.size + 3) .none → IsPair h' (s.heap.objs.size + 2) (.ref s.heap.objs.size) (.ref (s.heap.objs.size + 1)) → IsPair h' (s.heap.objs.size + 3) .none .none →
      h'.IsListIter s.heap.objs.size l1 0 → h'.IsTupleIter (s.heap.objs.size + 1) l2 0 → h'.objs.size = s.heap.objs.size + 5 → (∀ c o, s.heap.get? c = some o → h'.get? c = some o) → Q (.ref (s.heap.objs.size + 4)) { s with heap := h' }) :
    wpAny (model prog w) A (call (.type "zip") [.ref l1, .ref l2]) Q E s := by
  refine callType_new F.called_zip (by decide) (F.typeCall_zip_2 _ _) (F.newCall_zip_2 _ _) (fun o => F.args_object_init_3 o _ _) F.entry_zip_new (made l1 l2 xs ys) ⟨a1, a2, ?_⟩
  have e1 : (mz1 s.heap l1).objs.size = s.heap.objs.size + 1 := Heap.size_push ..
  have e2 : (mz2 s.heap l1 l2).objs.size = s.heap.objs.size + 2 := by rw [Heap.size_push, e1]
  have e3 : (mz3 s.heap l1 l2).objs.size = s.heap.objs.size + 3 := by rw [Heap.size_push, e2]
  have e4 : (mz4 s.heap l1 l2).objs.size = s.heap.objs.size + 4 := by rw [Heap.size_push, e3]
  have e5 : (mz5 s.heap l1 l2).objs.size = s.heap.objs.size + 5 := by rw [Heap.size_push, e4]
  have p1 : ∀ c o, (mz1 s.heap l1).get? c = some o → (mz5 s.heap l1 l2).get? c = some o := fun c o q => Heap.get?_push_of_some _ (Heap.get?_push_of_some _ (Heap.get?_push_of_some _ (Heap.get?_push_of_some _ q)))
  have p2 : ∀ c o, (mz2 s.heap l1 l2).get? c = some o → (mz5 s.heap l1 l2).get? c = some o := fun c o q => Heap.get?_push_of_some _ (Heap.get?_push_of_some _ (Heap.get?_push_of_some _ q))
  have f1 := p1 _ _ (Heap.get?_push_size s.heap (o := { cls := .type "list_iterator", data := .fields #[.ref l1, .int 0 0] }) rfl)
  have f2 := p2 _ _ (Heap.get?_push_size (mz1 s.heap l1) (o := { cls := .type "tuple_iterator", data := .fields #[.ref l2, .int 0 0] }) rfl)
  have f3 : (mz5 s.heap l1 l2).get? (mz2 s.heap l1 l2).objs.size = some _ := Heap.get?_push_of_some _ (Heap.get?_push_of_some _ (Heap.get?_push_size _ rfl))
  have f4 : (mz5 s.heap l1 l2).get? (mz3 s.heap l1 l2).objs.size = some _ := Heap.get?_push_of_some _ (Heap.get?_push_size _ rfl)
  have f5 : (mz5 s.heap l1 l2).get? (mz4 s.heap l1 l2).objs.size = some _ := Heap.get?_push_size _ rfl
  show _ ∧ _
  rw [e1] at f2; rw [e1, e2] at f3; rw [e3] at f4; rw [e2, e3, e4] at f5; rw [e4]
  exact ⟨⟨_, f5, rfl⟩, h _ f5 f3 f4 ⟨_, f1, rfl, rfl⟩ ⟨_, f2, rfl, rfl⟩ e5 fun c o q => p1 _ _ (Heap.get?_push_of_some _ q)⟩
theorem pairArg (X1 : Src prog w i1 l1 xs S1) (X2 : Src prog w i2 l2 ys S2) (D : ZipApart z TI TO i1 i2 l1 l2) :
    PairArg prog w "zip" z [z, TI, TO, i1, i2, l1, l2] [z, TO, i1, i2] (min xs.size ys.size) (fun i k v => xs[i]? = some k ∧ ys[i]? = some v) (fun h => IsZip h z TI TO .none ∧ IsPair h TI (.ref i1) (.ref i2) ∧ (∃ a b, IsPair h TO a b) ∧ S1 0 h ∧ S2 0 h) where
  type := fun s ok => ⟨_, ok.1, rfl⟩
  notDict := by decide
  keep := fun h h' ok e => ⟨e _ _ ok.1, e _ _ ok.2.1, let ⟨a, b, q⟩ := ok.2.2.1; ⟨a, b, e _ _ q⟩, X1.keep _ _ _ ok.2.2.2.1 (e _) (e _), X2.keep _ _ _ ok.2.2.2.2 (e _) (e _)⟩
  there := fun h ok c hc => by
    obtain ⟨a1, a2, ⟨_, _, a3⟩, a4, a5⟩ := ok
    have b4 := X1.here _ _ a4
    have b5 := X2.here _ _ a5
    rcases List.mem_cons.mp hc with rfl | hc
    · exact ⟨_, a1⟩
    rcases List.mem_cons.mp hc with rfl | hc
    · exact ⟨_, a2⟩
    rcases List.mem_cons.mp hc with rfl | hc
    · exact ⟨_, a3⟩
    rcases List.mem_cons.mp hc with rfl | hc
    · exact b4.1
    rcases List.mem_cons.mp hc with rfl | hc
    · exact b5.1
    rcases List.mem_cons.mp hc with rfl | hc
    · exact b4.2
    rw [List.mem_singleton.mp hc]
    exact b5.2
  sub := fun c hc => by
    rcases List.mem_cons.mp hc with rfl | hc
    · simp
    rcases List.mem_cons.mp hc with rfl | hc
    · simp
    rcases List.mem_cons.mp hc with rfl | hc
    · simp
    rw [List.mem_singleton.mp hc]
    simp
  noKeys := fun A s Q E hA ok h => getAttrOr_miss_zip ok.1 rfl rfl rfl zip_no_keys (by decide +kernel) hA h
  iter := fun A s d Q E hA ok hd out h => by
    obtain ⟨a1, a2, ⟨a, b, a3⟩, a4, a5⟩ := ok
    have ne : ∀ c ∈ [z, TI, TO, i1, i2, l1, l2], c ≠ d := fun c hc q => out (q ▸ hc)
    refine wpAny_pyIter_zip a1 (h z [z, TO, i1, i2] (fun i h => IsPair h TI (.ref i1) (.ref i2) ∧ S1 i h ∧ S2 i h ∧ ((IsZip h z TI TO .none ∧ ∃ a b, IsPair h TO a b) ∨ ∃ T f oT, IsZipHeld h z TI TO T f ∧ h.get? T = some oT ∧ T ≠ z ∧ T ≠ i1 ∧ T ≠ i2 ∧ T ≠ d)) s.heap s.toks ?_ ⟨a2, a4, a5, .inl ⟨a1, a, b, a3⟩⟩ (fun _ _ e => e) fun c hc => .inl hc)
    refine { off := fun hm => ?_, frame := fun i g g' st e => ?_, item := fun i s1 Q1 E1 hi st lt hq => ?_, done := fun s1 Q1 E1 st hq => ?_ }
    · refine ne d ?_ rfl
      rcases List.mem_cons.mp hm with rfl | hm
      · simp
      rcases List.mem_cons.mp hm with rfl | hm
      · simp
      rcases List.mem_cons.mp hm with rfl | hm
      · simp
      rw [List.mem_singleton.mp hm]
      simp
    · obtain ⟨b2, b4, b5, b1⟩ := st
      refine ⟨e _ _ (ne _ (by simp)) b2, X1.keep _ _ _ b4 (fun o => e _ o (ne _ (by simp))) (fun o => e _ o (ne _ (by simp))), X2.keep _ _ _ b5 (fun o => e _ o (ne _ (by simp))) (fun o => e _ o (ne _ (by simp))), ?_⟩
      rcases b1 with ⟨q, u, v, p⟩ | ⟨T, f, oT, q, p, n1, n2, n3, n4⟩
      · exact .inl ⟨e _ _ (ne _ (by simp)) q, u, v, e _ _ (ne _ (by simp)) p⟩
      · exact .inr ⟨T, f, oT, e _ _ (ne _ (by simp)) q, e _ _ n4 p, n1, n2, n3, n4⟩
    · obtain ⟨b2, b4, b5, b1⟩ := st
      have ix : i < xs.size := Nat.lt_of_lt_of_le hi (Nat.min_le_left _ _)
      have iy : i < ys.size := Nat.lt_of_lt_of_le hi (Nat.min_le_right _ _)
      have ex := Array.getElem?_eq_getElem ix
      have ey := Array.getElem?_eq_getElem iy
      have old : ∀ {c}, (∃ o, s1.heap.get? c = some o) → s1.heap.objs.size ≠ c := fun ⟨_, e⟩ => Nat.ne_of_gt (Heap.lt_size e)
      have n1 := old (X1.here _ _ b4).1
      have n2 := old (X2.here _ _ b5).1
      rcases b1 with ⟨q, u, v, p⟩ | ⟨T, f, oT, q, p, m1, m2, m3, m4⟩
      · refine next_give (R := fun v s' => ∃ h', v = .ref s1.heap.objs.size ∧ s' = { s1 with heap := h' } ∧ IsZip h' z TI TO (rawInt s1.heap.objs.size) ∧ S1 (i + 1) h' ∧ S2 (i + 1) h' ∧ IsPair h' s1.heap.objs.size xs[i] ys[i] ∧ (∀ c o, c ≠ z → c ≠ TO → c ≠ i1 → c ≠ i2 → s1.heap.get? c = some o → h'.get? c = some o)) ⟨_, q, rfl⟩
          (fun A' E' Q' hr => first_item X1 X2 D q b2 p b4 b5 ex ey fun h' c1 c2 c3 c4 _ c6 => hr _ _ ⟨h', rfl, rfl, c1, c2, c3, c4, c6⟩) ?_
        rintro _ _ ⟨h', rfl, rfl, c1, c2, c3, c4, c6⟩
        refine hq s1.heap.objs.size _ _ h' s1.toks ⟨ex, ey⟩ (.inl ⟨_, c4, rfl, _, rfl⟩) ⟨c6 _ _ D.TIz D.TITO D.TIi1 D.TIi2 b2, c2, c3, .inr ⟨s1.heap.objs.size, false, _, c1, c4, old ⟨_, q⟩, n1, n2, Nat.ne_of_gt lt⟩⟩ fun c o hc e => ?_
        exact c6 c o (fun y => hc (by simp [y])) (fun y => hc (by simp [y])) (fun y => hc (by simp [y])) (fun y => hc (by simp [y])) e
      · refine next_give (R := fun v s' => ∃ h', v = .ref s1.heap.objs.size ∧ s' = { s1 with heap := h' } ∧ IsZipHeld h' z TI TO T true ∧ S1 (i + 1) h' ∧ S2 (i + 1) h' ∧ IsPair h' s1.heap.objs.size xs[i] ys[i] ∧ (∀ c o, c ≠ z → c ≠ i1 → c ≠ i2 → s1.heap.get? c = some o → h'.get? c = some o)) ⟨_, q, rfl⟩
          (fun A' E' Q' hr => held_item X1 X2 D q p b2 b4 b5 ex ey fun h' c1 c2 c3 c4 _ c6 => hr _ _ ⟨h', rfl, rfl, c1, c2, c3, c4, c6⟩) ?_
        rintro _ _ ⟨h', rfl, rfl, c1, c2, c3, c4, c6⟩
        refine hq s1.heap.objs.size _ _ h' s1.toks ⟨ex, ey⟩ (.inl ⟨_, c4, rfl, _, rfl⟩) ⟨c6 _ _ D.TIz D.TIi1 D.TIi2 b2, c2, c3, .inr ⟨T, true, oT, c1, c6 _ _ m1 m2 m3 p, m1, m2, m3, m4⟩⟩ fun c o hc e => ?_
        exact c6 c o (fun y => hc (by simp [y])) (fun y => hc (by simp [y])) (fun y => hc (by simp [y])) e
    · obtain ⟨b2, b4, b5, b1⟩ := st
      have no : xs[min xs.size ys.size]? = none ∨ ys[min xs.size ys.size]? = none := by
        rcases Nat.le_total xs.size ys.size with c | c
        · exact .inl (by rw [Nat.min_eq_left c]; simp)
        · exact .inr (by rw [Nat.min_eq_right c]; simp)
      rcases b1 with ⟨q, u, v, p⟩ | ⟨T, f, oT, q, p, m1, m2, m3, m4⟩
      · refine next_stop (R := fun h' => ∀ c o, c ≠ z → c ≠ TO → c ≠ i1 → c ≠ i2 → s1.heap.get? c = some o → h'.get? c = some o) hA ⟨_, q, rfl⟩ (fun A' E' Q' hh hr => first_end hh X1 X2 D q b2 p b4 b5 no fun h' e c es => hr h' e c es) fun h' c6 => ?_
        exact hq h' s1.toks fun c o hc e => c6 c o (fun y => hc (by simp [y])) (fun y => hc (by simp [y])) (fun y => hc (by simp [y])) (fun y => hc (by simp [y])) e
      · refine next_stop (R := fun h' => ∀ c o, c ≠ z → c ≠ i1 → c ≠ i2 → s1.heap.get? c = some o → h'.get? c = some o) hA ⟨_, q, rfl⟩ (fun A' E' Q' hh hr => held_end hh X1 X2 D q p b2 b4 b5 no fun h' e c es => hr h' e c es) fun h' c6 => ?_
        exact hq h' s1.toks fun c o hc e => c6 c o (fun y => hc (by simp [y])) (fun y => hc (by simp [y])) (fun y => hc (by simp [y])) e
end
end MixZ
set_option Elab.async false
set_option linter.all false
set_option maxRecDepth 100000
set_option maxHeartbeats 2000000
/-! dict(zip(xs, t)): xs a list of texts, t a tuple as long. -/
namespace L2
open PySem PySem.Spec PyProof.Rows
def zipK (zs : List Str) (ys : List V) : List (Key × V) := (zs.zip ys).map fun q => (Sum.inr q.1, q.2)
def tDictZip (K : PySem.W.Frag) (ta : TA) : TE := fun σ H Q => ta σ H fun vs H1 => ∃ (a b : Addr) (zs : List Str) (ys : List V), vs = [.ref a, .ref b] ∧ SqL K H1 a (zs.map V.str) ∧ SqT K H1 b ys ∧ zs.length = ys.length ∧
  ∀ p, H1 p = none → Q (.ref p) (upd H1 p (.dK (mergeK [] (zipK zs ys))))
theorem kv_zip : ∀ {zs : List Str} {ys : List V} {us ws : List Value}, Vals (zs.map V.str) us → Vals ys ws → zs.length = ys.length →
    KV (zipK zs ys) ((zs.zip ws).map fun q => ((Sum.inr q.1 : Key), q.2))
  | [], _, _, _, _, _, _ => .nil
  | z :: zs, y :: ys, _, _, .cons h1 t1, .cons h2 t2, hl => .cons ⟨rfl, h2⟩ (kv_zip t1 t2 (Nat.succ.inj hl))
  | _ :: _, [], _, _, _, _, hl => by cases hl
theorem dictZip_have {prog : Program} {w : World} {zs : List Str} {us ws : List Value} (h : Vals (zs.map V.str) us) (hl : zs.length = ws.length) :
    PairsHave (mixKind prog w) (min us.toArray.size ws.toArray.size) (fun i k v => us.toArray[i]? = some k ∧ ws.toArray[i]? = some v) ((zs.zip ws).map fun q => ((Sum.inr q.1 : Key), q.2)) := by
  have hu : us.length = zs.length := by have := h.length; rw [List.length_map] at this; exact this.symm
  refine ⟨by rw [List.length_map, List.length_zip]; simp [hu], fun i k v hr => ?_⟩
  have h1 : us[i]? = some k := by simpa using hr.1
  have h2 : ws[i]? = some v := by simpa using hr.2
  have iw := (List.getElem?_eq_some_iff.mp h2).1
  have iz : i < zs.length := by omega
  obtain ⟨u, hu1, hu2⟩ := h.get (i := i) (x := .str zs[i]) (by rw [List.getElem?_map, List.getElem?_eq_getElem iz]; rfl)
  rw [h1] at hu1
  cases hu1
  obtain ⟨t, rfl⟩ := hu2
  refine ⟨Sum.inr zs[i], ?_, ?_⟩
  · have e : (zs.zip ws)[i]? = some (zs[i], v) := List.getElem?_zip_eq_some.mpr ⟨List.getElem?_eq_getElem iz, h2⟩
    rw [List.getElem?_map, e]
    rfl
  · show keyIs (Sum.inr zs[i]) (.str zs[i] t) = true
    unfold keyIs
    simp [Value.isStrOf]
section
variable {X : Cx} {e e2 : Expr} {ta : TA} {p p2 pos pos2 : Pos}
theorem pe_dictZip (hc : X.calm = true) (ha : PA X [e, e2] ta) (hgd : Gl X "dict") (hmd : X.mg "dict" = none) (hvd : bootBuiltins "dict" = some (.type "dict")) (hgz : Gl X "zip") (hmz : X.mg "zip" = none)
    (hs : starEach [.Call (.Name "zip" p2) [e, e2] [] pos2] X.env = (false, eval (.Call (.Name "zip" p2) [e, e2] [] pos2) X.env) :: starEach [] X.env := by rfl)
    (hs2 : starEach [e, e2] X.env = (false, eval e X.env) :: starEach [e2] X.env := by rfl) (hpl : (backTo pos2 (starEach [e2] X.env)).any (·.1) = false := by rfl) :
    PE X (.Call (.Name "dict" p) [.Call (.Name "zip" p2) [e, e2] [] pos2] [] pos) (tDictZip X.K ta) := by
  refine ⟨fun pins s σ H Q I hq => ?_⟩
  refine wpAny_Call_Name_kw (ld_blt I hgd hmd hvd ?_)
  refine PyProof.Rows.callWith_type1 ?_ hs rfl
  rw [hs]
  show wpAny _ _ (spliced ((false, eval (.Call (.Name "zip" p2) [e, e2] [] pos2) X.env) :: backTo pos (starEach [] X.env))) _ _ s
  refine Calls.spliced_cons ?_
  refine wpAny_Call_Name_kw (ld_blt I hgz hmz PyProof.Rows.boot_zip (PyProof.Rows.callWith_type1 (thn (ha.run pos2 pins s σ H _ I hq) fun us s1 ⟨vs, H1, I1, r1, a, b, zs, ys, ex, hL, hT, hl, q⟩ => ?_) hs2 hpl))
  subst ex
  obtain ⟨u1, u2, rfl, ra, rb⟩ := vals2 r1
  cases ra
  cases rb
  obtain ⟨its, rv, pl, hzz⟩ := I1.list hL
  obtain ⟨its2, rv2, pt, _⟩ := I1.tuple hT
  obtain ⟨o2, ho2, _⟩ := id pt
  refine MixZ.call_mix pl.isList (show s1.heap.IsTuple b its2.toArray from pt) fun h' hz hTI hTO h1 h2 hsz hk => ?_
  refine Calls.spliced_nil ?_
  have la : a < s1.heap.objs.size := pl.lt
  have lb : b < s1.heap.objs.size := Heap.lt_size ho2
  have hle := rv2.length
  have hlu := rv.length
  rw [List.length_map] at hlu
  have hzl : min its.toArray.size its2.toArray.size ≤ sizeLine := by
    rw [List.length_map] at hzz
    refine Nat.le_trans (Nat.min_le_left _ _) ?_
    rw [List.size_toArray]
    omega
  have is1 : h'.IsList a its.toArray := let ⟨o, ho, r⟩ := pl.isList; ⟨o, hk _ _ ho, r⟩
  have is2 : h'.IsTuple b its2.toArray := let ⟨o, ho, r⟩ := (show s1.heap.IsTuple b its2.toArray from pt); ⟨o, hk _ _ ho, r⟩
  refine PySem.call_dict_pairs (knd := mixKind X.prog X.w) (kvs := (zs.zip its2).map fun q => ((Sum.inr q.1 : Key), q.2)) (MixZ.pairArg (MixZ.src_list (xs := its.toArray) (Nat.ne_of_lt la)) (MixZ.src_tup (xs := its2.toArray) (Nat.ne_of_lt (Nat.lt_succ_of_lt lb))) (PySem.W.ktu_apart s1.heap.objs.size a b la lb))
    (I1.ok.hd hc) ⟨hz, hTI, ⟨_, _, hTO⟩, ⟨h1, is1⟩, ⟨h2, is2⟩⟩ (dictZip_have rv (by omega)) hzl fun h2 tk hd hk2 => ?_
  have lz : (zipK zs ys).length = zs.length := by
    show (List.map _ _).length = _
    rw [List.length_map, List.length_zip, hl, Nat.min_self]
  rw [List.length_map] at hzz
  have hlen : (mergeK [] (zipK zs ys)).length ≤ sizeLine := by
    have := length_mergeK (zipK zs ys) []
    rw [List.length_nil] at this
    omega
  have hge : s1.heap.objs.size ≤ h'.objs.size := by rw [hsz]; exact Nat.le_add_right _ _
  have hm : (h'.objs.size == sysModules) = false := beq_eq_false_iff_ne.mpr (Nat.ne_of_gt (Nat.lt_of_lt_of_le I1.big hge))
  have old : ∀ c o, s1.heap.get? c = some o → h2.get? c = some o := fun c o e => by
    have lc := Heap.lt_size e
    refine hk2 c o (fun z => ?_) (hk c o e)
    have z' : c = s1.heap.objs.size + 4 ∨ c = s1.heap.objs.size + 3 ∨ c = s1.heap.objs.size ∨ c = s1.heap.objs.size + 1 := by simpa using z
    rcases z' with q | q | q | q
    rotate_left 2
    · rw [q] at lc
      exact absurd lc (Nat.lt_irrefl _)
    all_goals (rw [q] at lc; exact absurd lc (Nat.not_lt.mpr (Nat.le_add_right _ _)))
  exact ⟨.ref h'.objs.size, _, I1.laid (t' := tk) old hge (show ObjOk X.prog X.w _ _ _ (.dK (mergeK [] (zipK zs ys))) from ⟨hlen, hm, _, KV.merge (kv_zip rv rv2 hl) .nil, hd⟩), rfl, q _ (I1.hok.fresh hge)⟩
end
end L2
set_option Elab.async false
set_option linter.all false
set_option maxRecDepth 100000
set_option maxHeartbeats 2000000
namespace K43
open PySem PySem.Spec PyProof.Rows L2 KD
open C8 (Cal Def cal0 pe_c fnBody fnScope fnArgs)
theorem mergeK_new : ∀ (kvs acc : List (Key × V)), (kvs.map (·.1)).Nodup → (∀ k ∈ kvs, ∀ a ∈ acc, k.1 ≠ a.1) → mergeK acc kvs = acc ++ kvs
  | [], acc, _, _ => (List.append_nil acc).symm
  | (k, v) :: kvs, acc, hn, hd => by
    have hn' := List.nodup_cons.mp hn
    show mergeK (putK acc k v) kvs = acc ++ ((k, v) :: kvs)
    rw [putK_new _ (valV_out fun q hq e => hd (k, v) List.mem_cons_self q hq e.symm), mergeK_new kvs _ hn'.2 ?_, List.append_assoc]
    · rfl
    · intro k2 hk2 a ha
      rcases List.mem_append.mp ha with ha | ha
      · exact hd k2 (List.mem_cons_of_mem _ hk2) a ha
      · rw [List.mem_singleton.mp ha]
        exact fun e => hn'.1 (by rw [show ((fun x : Key × V => x.1) (k, v)) = k2.1 from (show k2.1 = k from e).symm]; exact List.mem_map_of_mem hk2)
theorem zipK_keys : ∀ {zs : List Str} {ys : List V}, zs.length = ys.length → (zipK zs ys).map (·.1) = zs.map Sum.inr
  | [], _, _ => rfl
  | z :: zs, y :: ys, h => congrArg (Sum.inr z :: ·) (zipK_keys (Nat.succ.inj h))
  | _ :: _, [], h => by cases h
theorem merge_zipK {zs : List Str} {ys : List V} (hl : zs.length = ys.length) (hn : zs.Nodup) : mergeK [] (zipK zs ys) = zipK zs ys := by
  rw [mergeK_new _ [] ?_ (fun _ _ _ h => nomatch h), List.nil_append]
  rw [zipK_keys hl]
  exact List.pairwise_map.mpr (List.Pairwise.imp (fun {a b} n e => n (Sum.inr.inj e)) hn)
theorem part_at {H : Hp} {v : V} {ts : List (Str × Kd)} {g : Kd} (h : Td H v (partD ts g)) : ∃ t tv gv rv, v = .ref t ∧ H t = some (.tup [tv, gv, rv]) ∧ Td H tv (.tuple (ts.map takeD)) := by
  cases h with
  | @tup t xs _ hq ha => cases ha with
    | cons h1 h2 => cases h2 with
      | cons h3 h4 => cases h4 with
        | cons h5 h6 => cases h6; exact ⟨t, _, _, _, rfl, hq, h1⟩
theorem tup_at {H : Hp} {v : V} {ds : List PyData} (h : Td H v (.tuple ds)) : ∃ t xs, v = .ref t ∧ H t = some (.tup xs) ∧ TdAll H xs ds := by
  cases h with
  | tup h1 h2 => exact ⟨_, _, rfl, h1, h2⟩
theorem take_get {ts : List (Str × Kd)} {i : Nat} {d : PyData} (h : (ts.map takeD)[i]? = some d) : ∃ a, ts[i]? = some a ∧ takeD a = d := by
  rw [List.getElem?_map] at h
  cases c : ts[i]? with
  | none => rw [c] at h; cases h
  | some a => rw [c] at h; exact ⟨a, rfl, Option.some.inj h⟩
/-- the values are of the takes' kinds -/
def okVals (ts : List (Str × Kd)) (ds : List PyData) : Bool := decide (ds.length = ts.length) && (ts.zip ds).all fun q => isK q.1.2 q.2
section
variable {P : Program} {w : World} {K : PySem.W.Frag} {mg : Str → Option Value} {base : Heap}
/-! ### a frame at its first row -/
abbrev sPFrameAtFirst : Stmt := topS 14
abbrev NPFrameAtFirst : List Str := ["name", "part", "values", "takes", "take", "_"]
theorem scPFrameAtFirst : FnScope NPFrameAtFirst ["name", "part", "values"] (fnScope sPFrameAtFirst) := ⟨rfl, rfl, rfl, by decide +kernel, rfl, by decide +kernel, by decide +kernel⟩
def spFrame (K : PySem.W.Frag) : Sp := fun vs H Q _ => ∃ (nm : Str) (pt : V) (va : Addr) (ys : List V) (ts : List (Str × Kd)) (g : Kd), vs = [.str nm, pt, .ref va] ∧ Td H pt (partD ts g) ∧ H va = some (.tup ys) ∧ ts.length = ys.length ∧ KOk 10 ts ∧
  ∀ a hd H', H' a = some (.tup [.str nm, pt, .int 0, .ref hd]) → H' hd = some (.dK (zipK (ts.map (·.1)) ys)) → H hd = none → Same H H' → Q (.ref a) H'
theorem c_frame (T : Tp mg) {f : Addr} {fd : FuncData} (D : Def K mg "frame_at_first" sPFrameAtFirst f fd) (b : Binds K fd ["name", "part", "values"] []) : Cal P w K mg base 1 "frame_at_first" (spFrame K) [] := by
  refine cal0 D b .nil scPFrameAtFirst (fun vs H Q E h => ?_) (fun cdv A outer s H vs Q E hr h => ?_)
  · obtain ⟨nm, pt, va, ys, ts, g, rfl, _⟩ := h
    rfl
  · obtain ⟨nm, pt, va, ys, ts, g, rfl, hp, hva, hl, hok, q⟩ := h
    have nd := scPFrameAtFirst.nd
    have line := sizeLine_eq
    refine ⟨_, (pss_cons (ps_setLc (i := 3) (own := [("take", 4), ("_", 5)]) (g := gTup K 2 (gCons (gName 4) (gCons (gName 5) gNil))) rfl nd rfl rfl (sw_true rfl rfl rfl (by decide +kernel)) (pi_tup (pe_ix ix_tup (pv 1) pe_int (fun _ _ => rfl))) (blkOk_by (own := [("take", 4), ("_", 5)]) (N := NPFrameAtFirst) (sc := fnScope sPFrameAtFirst) (by decide +kernel)) (fun _ _ _ _ _ => (pg_tup (n := 2) rfl (pgs_cons (pg_name (i := 4) nd rfl (Or.inl rfl)) (pgs_cons (pg_name (i := 5) nd rfl (Or.inl rfl)) pgs_nil)))) (fun _ _ _ _ _ => pts_nil) (fun _ _ _ _ _ => (pv 4)))
    (pss_one (ps_ret (pe_tup (pa_cons (pv 0) (pa_cons (pv 1) (pa_cons pe_int (pa_cons (pe_dictZip rfl (pa_cons (pv 3) (pa_cons (pv 2) pa_nil)) (by rfl) T.n_dict (by decide +kernel) (by rfl) T.n_zip) pa_nil)))))))), ?_⟩
    obtain ⟨pa, tv, gv, rv, rfl, hpa, htv⟩ := part_at hp
    obtain ⟨ta, txs, rfl, hta, htx⟩ := tup_at htv
    have htl := htx.len
    rw [List.length_map] at htl
    have hkl := hok.len
    refine ⟨_, rfl, pa, _, 0, .ref ta, rfl, rfl, SqT.of hpa, atI_nat (j := 0) rfl, ta, rfl, ⟨txs, SqT.of hta⟩, fun Dl hDl => ?_⟩
    refine lc_tup (xs := txs) (fun i H' => H' Dl = some (.lst (((ts.take i).map (·.1)).map V.str)) ∧ Same H H') ⟨upd_same, Same.new hDl⟩ (fun i H' hi hW => SqT.of (hW.2 _ _ hta)) (fun i x H' hx hW => ?_) (fun H' hW => ?_)
    · obtain ⟨hat, sm⟩ := hW
      obtain ⟨d9, hd9, td9⟩ := tdAll_at htx hx
      obtain ⟨a9, ha9, rfl⟩ := take_get hd9
      have hil := (List.getElem?_eq_some_iff.mp ha9).1
      obtain ⟨t9, kv9, rfl, ht9, tk9⟩ := take_at td9
      refine ⟨t9, _, rfl, SqT.of (sm _ _ ht9), rfl, _, _, rfl, _, _, rfl, rfl, rfl, ?_⟩
      unfold tYes; dsimp only
      rw [if_pos rfl]
      refine ⟨_, rfl, _, hat, by rw [List.length_map, List.length_map, List.length_take]; omega, ?_, fun b o hb => ?_⟩
      · rw [take_succ ha9, List.map_append, List.map_append]
        exact upd_same
      · rw [upd_ne (fun z => by rw [z, hDl] at hb; cases hb)]
        exact sm _ _ hb
    · obtain ⟨hat, sm⟩ := hW
      rw [htl, List.take_of_length_le (Nat.le_refl _)] at hat
      refine ⟨_, rfl, _, rfl, _, rfl, _, rfl, Dl, va, ts.map (·.1), ys, rfl, SqL.of hat, SqT.of (sm _ _ hva), by rw [List.length_map, hl], fun hd hhd => ?_⟩
      rw [merge_zipK (by rw [List.length_map, hl]) hok.nd]
      refine ⟨by show 4 ≤ sizeLine; omega, fun a ha => ?_⟩
      have s2 : Same H' (upd H' hd (.dK (zipK (ts.map (·.1)) ys))) := Same.new hhd
      refine q a hd _ upd_same (Same.new ha _ _ upd_same) ?_ ((sm.trans s2).trans (Same.new ha))
      cases c : H hd with
      | none => rfl
      | some o => rw [sm _ _ c] at hhd; cases hhd
/-! ### values for takes -/
abbrev sPAreForTakes : Stmt := topS 17
abbrev NPAreForTakes : List Str := ["takes", "values", "value", "_", "kind"]
theorem scPAreForTakes : FnScope NPAreForTakes ["takes", "values"] (fnScope sPAreForTakes) := ⟨rfl, rfl, rfl, by decide +kernel, rfl, by decide +kernel, by decide +kernel⟩
def spFor : Sp := fun vs H Q _ => ∃ (tv vv' : V) (ts : List (Str × Kd)) (ds : List PyData), vs = [tv, vv'] ∧ Td H tv (.tuple (ts.map takeD)) ∧ Td H vv' (.tuple ds) ∧ vvs ds = true ∧ PyData.weightAll ds ≤ 200000 ∧ (∀ d ∈ ds, d.weight ≤ 100000) ∧ ts.length ≤ 10 ∧ ∀ H', Same H H' → Q (.bl (okVals ts ds)) H'
theorem c_for (T : Tp mg) (c_PIsOf : Cal P w K mg base 3 "is_of" (spIsOf K) []) {f : Addr} {fd : FuncData} (D : Def K mg "_are_for_takes" sPAreForTakes f fd) (b : Binds K fd ["takes", "values"] []) : Cal P w K mg base 4 "_are_for_takes" spFor [] := by
  refine cal0 D b .nil scPAreForTakes (fun vs H Q E h => ?_) (fun cdv A outer s H vs Q E hr h => ?_)
  · obtain ⟨tv, vw, ts, ds, rfl, _⟩ := h
    rfl
  · obtain ⟨tv, vw, ts, ds, rfl, htv, hvw, hvs, hwt, hwd, hkl, q⟩ := h
    have nd := scPAreForTakes.nd
    have line := sizeLine_eq
    refine ⟨_, (pss_cons (ps_if (pt_cmpR op_ne (pe_callB call_len_seq (by rfl) T.n_len (by decide +kernel) (pa_cons (pv 1) pa_nil)) (pe_callB call_len_seq (by rfl) T.n_len (by decide +kernel) (pa_cons (pv 0) pa_nil)) (nomark _))
      (pss_one (ps_ret pe_bl))
      pss_nil)
    (pss_one (ps_ret (pe_callB (cr_all rfl) (by rfl) T.n_all (by decide +kernel) (pa_cons (pe_lc (own := [("value", 2), ("_", 3), ("kind", 4)]) (g := gTup K 2 (gCons (gTup K 2 (gCons (gName 3) (gCons (gName 4) gNil))) (gCons (gName 2) gNil))) (by rfl) nd (RZ.pi_zipA (by rfl) T.n_zip (pa_cons (pv 0) (pa_cons (pv 1) pa_nil))) (blkOk_by (own := [("value", 2), ("_", 3), ("kind", 4)]) (N := NPAreForTakes) (sc := fnScope sPAreForTakes) (by decide +kernel)) (fun _ _ _ _ _ => (pg_tup (n := 2) rfl (pgs_cons (pg_tup (n := 2) rfl (pgs_cons (pg_name (i := 3) nd rfl (Or.inl rfl)) (pgs_cons (pg_name (i := 4) nd rfl (Or.inl rfl)) pgs_nil))) (pgs_cons (pg_name (i := 2) nd rfl (Or.inl rfl)) pgs_nil)))) (fun _ _ _ _ _ => pts_nil) (fun _ _ _ _ _ => (pe_c c_PIsOf hr (by decide) (by rfl) (pa_cons (pv 4) (pa_cons (pv 2) (pa_cons pe_dnewK pa_nil)))))) pa_nil))))), ?_⟩
    obtain ⟨ta, txs, rfl, hta, htx⟩ := tup_at htv
    obtain ⟨va, vxs, rfl, hva, hvx⟩ := tup_at hvw
    have htl := htx.len
    rw [List.length_map] at htl
    have hvl := hvx.len
    have hdl := len_weightAll ds
    have q0 := q H (Same.refl H)
    refine ⟨_, rfl, va, _, rfl, .inr (SqT.of hva), _, rfl, ta, _, rfl, .inr (SqT.of hta), rfl, _, rfl, ?_⟩
    by_cases hn : ds.length = ts.length
    · refine iteF' (by rw [hvl, htl, hn, decide_eq_true rfl]; rfl) ?_
      refine ⟨_, rfl, _, rfl, ta, va, txs, vxs, rfl, .inr ⟨SqT.of hta, SqT.of hva, fun Dl hDl => ?_⟩⟩
      refine lc_it (walk_zipT (K := K) (a := ta) (b := va) (xs := txs) (ys := vxs) (n := ts.length) (by omega)) (fun i H' => H' Dl = some (.lst ((((ts.zip ds).take i).map fun q => isK q.1.2 q.2).map V.bl)) ∧ Same H H')
        ⟨upd_same, Same.new hDl⟩ (fun i H' _ hW => ⟨SqT.of (hW.2 _ _ hta), SqT.of (hW.2 _ _ hva)⟩) (fun i x H2 H' hi hW hY => ?_) (fun H' hW => ?_)
      · obtain ⟨hat, sm⟩ := hW
        obtain ⟨T9, x9, y9, rfl, hT9, rfl, hx9, hy9⟩ := hY
        have hx9 : txs[i]? = some x9 := hx9
        have hy9 : vxs[i]? = some y9 := hy9
        obtain ⟨d9, hd9, td9⟩ := tdAll_at htx hx9
        obtain ⟨a9, ha9, rfl⟩ := take_get hd9
        obtain ⟨e9, he9, teq⟩ := tdAll_at hvx hy9
        obtain ⟨t9, kv9, rfl, ht9, tk9⟩ := take_at td9
        have sT := sm.trans (Same.new (o := .tup [.ref t9, y9]) hT9)
        have hmem := List.mem_of_getElem? he9
        have hz : (ts.zip ds)[i]? = some (a9, e9) := List.getElem?_zip_eq_some.mpr ⟨ha9, he9⟩
        refine ⟨T9, _, rfl, SqT.of upd_same, rfl, _, _, rfl, ⟨t9, _, rfl, SqT.of (sT _ _ ht9), rfl, _, _, rfl, _, _, rfl, rfl, _, _, rfl, rfl, rfl, ?_⟩⟩
        unfold tYes; dsimp only
        rw [if_pos rfl]
        refine ⟨_, rfl, _, rfl, fun d0 hd0 => ⟨kv9, a9.2, y9, e9, d0, fun _ => none, rfl, (tk9.mono ((TupS.same sT).trans (TupS.new hd0))).p, (teq.mono ((TupS.same sT).trans (TupS.new hd0))).p, vv_mem hvs hmem, hwd _ hmem, ⟨[], upd_same, fun z => .inl ⟨rfl, rfl⟩⟩, fun H3 s3 => ?_⟩⟩
        have s23 := (Same.new (o := .dK []) hd0).trans s3
        refine ⟨_, s23 _ _ (Same.new hT9 _ _ hat), by rw [List.length_map, List.length_map, List.length_take]; omega, ?_, fun b o hb => ?_⟩
        · rw [take_succ hz, List.map_append, List.map_append]
          exact upd_same
        · rw [upd_ne (fun z => by rw [z, hDl] at hb; cases hb)]
          exact s23 _ _ (sT _ _ hb)
      · obtain ⟨hat, sm⟩ := hW
        rw [List.take_of_length_le (by rw [List.length_zip, hn, Nat.min_self]; exact Nat.le_refl _)] at hat
        refine ⟨Dl, _, rfl, SqL.of hat, ?_⟩
        have e : ((ts.zip ds).map fun q => isK q.1.2 q.2).all id = okVals ts ds := by
          unfold okVals
          rw [List.all_map, decide_eq_true hn, Bool.true_and]
          rfl
        rw [e]
        exact q H' sm
    · refine iteT' (by rw [hvl, htl, decide_eq_false (fun e => hn (by have := V.int.inj e; omega))]; rfl) ?_
      have e : okVals ts ds = false := by unfold okVals; rw [decide_eq_false hn, Bool.false_and]
      rw [e] at q0
      exact q0
end
end K43
set_option Elab.async false
set_option linter.all false
set_option maxRecDepth 100000
set_option maxHeartbeats 2000000
/-! an own exception with an __init__ of its own, made where what is raised is noted with its context; isinstance of it. -/
namespace L2
open PySem PySem.Spec PyProof.Rows
section
variable {X : Cx} {e : Expr} {es : List Expr} {p pos : Pos} {ta : TA}
theorem pmkN_oex {CX : CXT} {x : Str} {C fI : Addr} {k : Nat} {fd : FuncData} {ps : List Str} {sp : Sp} (T : OexC X.K C) (ini : PySem.W.findIn X.K (.ref C) "__init__" = some (some (.ref fI))) (ty : PySem.W.typeIn X.K (.ref fI) = some (.type "function"))
    (Fn : FnOk X.prog X.w X.K X.mg X.base CX k fI fd ps sp) (room : Room (k + 1) X.A) (bd : Binds X.K fd ps []) (pass : Passes CX X (fun _ _ _ => False)) (gl : Gl X x) (gm : X.mg x = some (.ref C)) (ha : PA X (e :: es) ta)
    (hdb : (x == ("__debug__" : Str)) = false := by decide) (he : starEach (e :: es) X.env = (false, eval e X.env) :: starEach es X.env := by rfl) (hpl : (backTo pos (starEach es X.env)).any (·.1) = false := by rfl) :
    L2N.PMk X (.Call (.Name x p) (e :: es) [] pos) (tMkO C sp [] ta) := by
  intro pins s σ H Q I h
  obtain ⟨nm, q, N, bs, bm, sn, sub, ab, col, dd, k0, k1, k2, k3, k5, isC, own⟩ := T.cls
  refine wpAny_Call_Name_kw (ld_glob I gl gm (PySem.W.callWith_K (h₀ := X.base) I.ok.mod.kin T.kC (thn (ha.run pos pins s σ H _ I h) fun us s1 ⟨vs, H1, I1, r1, few, q1⟩ => ⟨I1.kIn, ?_⟩) he hpl) hdb)
  show wpAny _ _ (call (.ref C) us) _ _ _
  obtain ⟨hp, g, dr, tk, os⟩ := s1
  have up1 : hp.objs.size ≤ hp.objs.size + 1 := Nat.le_succ _
  have q2 := q1 (hp.objs.size + 1) (I1.hok.fresh up1)
  generalize hh : (hp.push (PySem.W.kdv_tup us)).push (PySem.HandSPX.excO C hp.objs.size) = hp2
  have old : ∀ b o, hp.get? b = some o → hp2.get? b = some o := fun b o z => by rw [← hh]; exact Heap.get?_push_of_some _ (Heap.get?_push_of_some _ z)
  have here : hp2.get? (hp.objs.size + 1) = some (PySem.HandSPX.excO C hp.objs.size) := by rw [← hh]; heap_get
  have I2 : Inv X pins σ (upd H1 (hp.objs.size + 1) (exo (hp.objs.size + 1) C none)) ⟨hp2, g, dr, tk, os⟩ := I1.laid (t' := tk) (a := hp.objs.size + 1) old up1 (exo_ok here)
  have r2 : Vals (V.ref (hp.objs.size + 1) :: (vs ++ [])) (Value.ref (hp.objs.size + 1) :: (us ++ [])) := .cons rfl (r1.append .nil)
  have ln : (Value.ref (hp.objs.size + 1) :: us ++ []).length = ps.length := (r2.length.symm.trans (Fn.len _ _ _ _ q2) : _)
  have few2 : us.length ≤ sizeLine := by
    rw [← Paired.length r1, sizeLine_eq]
    omega
  subst hh
  refine wpAny_call (PySem.HandSPX.call_own PySem.F.excBase_ValueError (fun Y => PySem.HandSPX.refsVE_contains Y bm own) (I1.kIn _ _ isC) (PySem.W.looks_findIn I1.kIn ini) (fun me => PySem.W.bind_fn I1.kIn me ty) few2
    (codeAny_mono (Fn.run _ X.stack _ _ ⟨Value.ref (hp.objs.size + 1) :: us, []⟩ (Value.ref (hp.objs.size + 1) :: (us ++ [])) _ _ (fun _ _ _ => False) (room.make C us []) (I2.env0.make C us []) (by exact bd _ (Value.ref (hp.objs.size + 1) :: us) I2.kIn ln) r2 q2) fun r s' z => ?_))
  cases r with
  | error er => exact pass pins σ _ _ er s' I2 z
  | ok fl =>
    cases fl with
    | ret u =>
      obtain ⟨v, H2, os2, bare, un, hok, rv, rfl, d, fs, ea, ed, nd, fin⟩ := z
      obtain ⟨h2, g2, d2, t2, os'⟩ := s'
      obtain ⟨t0, G, J, kG, ge, oe, na⟩ := mk_end0 (d2 := d2) (t2 := t2) I1 up1 old un hok os2 bare ea ed nd
      exact ⟨rv, _, _, _, ⟨G, g2, d2, t2, os'⟩, _, .ref C, some d, rfl, J, kG, ge, oe, ⟨rfl, rfl, fun vs z => by cases z; rfl⟩, rfl, rfl, na, rfl, bare, raises_own T.exC T.tyC, fin⟩
    | next => exact False.elim z
    | brk => exact False.elim z
    | cont => exact False.elim z
end
/-! ### isinstance of an exception that has a dict -/
theorem cls_some {K : PySem.W.Frag} {D : Addr} (h : PySem.W.hasDictIn K D = true) : (PySem.W.clsIn K D).isSome = true := by
  unfold PySem.W.hasDictIn at h
  cases c : PySem.W.clsIn K D with
  | none => rw [c] at h; cases h
  | some _ => rfl
section
variable {X : Cx} {a D : Addr} {oe : Obj} {pn : List (Addr × Obj)} {d : Option Addr} {cls : Value}
def rIsX (K : PySem.W.Frag) (D a : Addr) (cls : Value) (d : Option Addr) : List V → Hp → VK → Prop := fun xs H Q => ∃ (c : V) (u : Value) (b : Bool) (dd : Addr) (fs : List (Str × V)), xs = [.ref a, c] ∧ cls = .ref D ∧ d = some dd ∧ H dd = some (.xd fs) ∧ ClsV c u ∧ PySem.W.kitOne K (.ref D) u = some b ∧ Q (.bl b) H
def rIsXs (K : PySem.W.Frag) (D a : Addr) (cls : Value) (d : Option Addr) : List V → Hp → VK → Prop := fun xs H Q => ∃ (tp : Addr) (cs : List V) (us : List Value) (b : Bool) (dd : Addr) (fs : List (Str × V)), xs = [.ref a, .ref tp] ∧ cls = .ref D ∧ d = some dd ∧ H dd = some (.xd fs) ∧ H tp = some (.tup cs) ∧ Paired ClsV cs us ∧ PySem.W.kitAny K (.ref D) us = some b ∧ Q (.bl b) H
theorem inst_xd {pins : List (Addr × Obj)} {σ : L2.St} {H : Hp} {s : Shared} {dd : Addr} {fs : List (Str × V)} (hz : Zc (.ref D) (some dd) oe) (hf : ∃ vs, oe.data = .fields vs) (I : Inv (X.suite a ((a, oe) :: pn)) pins σ H s) (hx : H dd = some (.xd fs)) :
    ∃ od, PySem.W.InstAt s.heap a oe D (some od) := by
  obtain ⟨vs, hv⟩ := hf
  obtain ⟨mA, hns, _⟩ := (show ObjOk X.prog X.w H s.heap dd (.xd fs) from I.hok dd _ hx)
  obtain ⟨od, ho, _⟩ := lookIn_ns hns
  exact ⟨od, (I.pin (a, oe) (List.mem_append_left _ List.mem_cons_self)).1, hz.1, by unfold PySem.W.notCls; rw [hv] <;> rfl, by rw [hz.2]; exact ho⟩
theorem call_isX (C : ExcC X.K D) (hz : Zc cls d oe) (hf : ∃ vs, oe.data = .fields vs) : CallR (X.suite a ((a, oe) :: pn)) (.builtin "isinstance") (rIsX X.K D a cls d) := by
  intro pins s σ H xs us Q I r h
  obtain ⟨c, u, b, dd, fs, rfl, rfl, rfl, hx, hc, e, w⟩ := h
  obtain ⟨u1, u2, rfl, r1, r2⟩ := vals2 r
  cases r1
  have e2 := hc.eq r2
  subst e2
  obtain ⟨od, J⟩ := inst_xd hz hf I hx
  exact PySem.W.kia_one (PySem.W.kitx_exc (cls_some C.hd) C.hg C.hk C.hs C.ha C.hn C.ht C.hm) I.kIn J e (fun z => nomatch z) fun tk => ⟨.bl b, H, I.kept (t' := tk) fun _ _ z => z, rfl, w⟩
theorem call_isXs (C : ExcC X.K D) (hz : Zc cls d oe) (hf : ∃ vs, oe.data = .fields vs) : CallR (X.suite a ((a, oe) :: pn)) (.builtin "isinstance") (rIsXs X.K D a cls d) := by
  intro pins s σ H xs us Q I r h
  obtain ⟨tp, cs, ws, b, dd, fs, rfl, rfl, rfl, hx, hT, hc, e, w⟩ := h
  obtain ⟨u1, u2, rfl, r1, r2⟩ := vals2 r
  cases r1
  cases (show u2 = Value.ref tp from r2)
  obtain ⟨od, J⟩ := inst_xd hz hf I hx
  obtain ⟨_, its, rv, ⟨oc, od2, dt, sl⟩, g1, g2, n, g3⟩ := (show ObjOk X.prog X.w H s.heap tp (.tup cs) from I.hok tp _ hT)
  have e2 := ClsV.all hc rv
  simp only at g2 g3
  subst e2 g2 g3
  exact PySem.W.kia_tup (PySem.W.kitx_exc (cls_some C.hd) C.hg C.hk C.hs C.ha C.hn C.ht C.hm) I.kIn J g1 e (fun z => nomatch z) fun tk => ⟨.bl b, H, I.kept (t' := tk) fun _ _ z => z, rfl, w⟩
end
end L2
set_option Elab.async false
set_option linter.all false
set_option maxRecDepth 100000
set_option maxHeartbeats 2000000
namespace K43
open PySem PySem.Spec PyProof.Rows L2 KD L2H
open C8 (Cal Def cal0 pe_c fnBody fnScope fnArgs)
/-- Stuck's own __init__ -/
def sInit : Stmt := match topS 4 with
  | .ClassDef (body := bd) .. => bd.getD 0 (.Pass ⟨0, 0, 0, 0⟩)
  | _ => .Pass ⟨0, 0, 0, 0⟩
abbrev NInit : List Str := ["self", "name", "row"]
theorem scInit : FnScope NInit ["self", "name", "row"] (fnScope sInit) := ⟨rfl, rfl, rfl, by decide +kernel, rfl, by decide +kernel, by decide +kernel⟩
structure Sk (K : PySem.W.Frag) (mg : Str → Option Value) (CS fI : Addr) (fd : FuncData) : Prop where
  ox : OexC K CS
  ini : PySem.W.findIn K (.ref CS) "__init__" = some (some (.ref fI))
  ty : PySem.W.typeIn K (.ref fI) = some (.type "function")
  nn : PySem.W.findIn K (.ref CS) "name" = some none
  nr : PySem.W.findIn K (.ref CS) "row" = some none
  gS : mg "Stuck" = some (.ref CS)
  fn : ∃ (oc : Value) (od : Option Addr) (dV kV dc pm ct cdv : Value) (an : Option Addr) (osl : Array (Option Value)), fd = PySem.W.fnOf "__init__" "Stuck.__init__" (fnArgs sInit) (fnBody sInit) (fnScope sInit) dV kV dc pm an cdv ct ∧
    K.lookup fI = some ⟨oc, od, .func (PySem.W.fnOf "__init__" "Stuck.__init__" (fnArgs sInit) (fnBody sInit) (fnScope sInit) dV kV dc pm an cdv ct), osl⟩ ∧ PySem.W.codeIn K cdv "Stuck.__init__" = true
  bd : Binds K fd ["self", "name", "row"] []
section
variable {P : Program} {w : World} {K : PySem.W.Frag} {mg : Str → Option Value} {base : Heap} {CX : CXT}
def spInit (CS : Addr) : Sp := fun vs H Q _ => ∃ (a : Addr) (x y : V), vs = [.ref a, x, y] ∧ H a = some (exo a CS none) ∧ ∀ dx, H dx = none → dx ≠ a → Q .non (upd (upd (upd H dx (exd dx [("name", x)])) a (exo a CS (some dx))) dx (exd dx [("row", y), ("name", x)]))
theorem f_init {CS fI : Addr} {fd : FuncData} (S : Sk K mg CS fI fd) : FnOk P w K mg base CX 1 fI fd ["self", "name", "row"] (spInit CS) := by
  obtain ⟨oc, od, dV, kV, dc, pm, ct, cdv, an, osl, rfl, lk, hcd⟩ := S.fn
  refine fn_of lk hcd scInit (fun vs H Q E h => ?_) (fun A outer s H vs Q E hr h => ?_)
  · obtain ⟨a, x, y, rfl, _⟩ := h
    rfl
  · obtain ⟨a, x, y, rfl, ha, q⟩ := h
    refine ⟨_, (pss_cons (ps_ost (pv 0) (pv 1)) (pss_one (ps_ost (pv 0) (pv 2)))), ?_⟩
    refine ⟨_, rfl, _, rfl, a, CS, rfl, S.ox, S.nn, .inl ⟨ha, fun dx hdx ne => ?_⟩⟩
    refine ⟨_, rfl, _, rfl, a, CS, rfl, S.ox, S.nr, .inr ⟨dx, [("name", x)], upd_same, ?_, (by show 1 ≤ 900; decide), ?_⟩⟩
    · rw [upd_ne ne]
      exact upd_same
    · exact q dx hdx ne
end
/-- a dict comprehension over whatever is walked -/
theorem dc_it {J : It} {n : Nat} {G : Hp → Prop} {Y : Nat → Hp → V → Hp → Prop} (w : Walk J n G Y) {g : TG} {tt : TT} {tk tv : TE} {vs : List Nat} {σ : L2.St} {H1 : Hp} {D : Addr} {Qd : Hp → Prop} (Pv : Nat → Hp → Prop) (h0 : Pv 0 (upd H1 D (.dK []))) (hG : ∀ i H, i ≤ n → Pv i H → G H)
    (hs : ∀ i x H H', i < n → Pv i H → Y i H x H' → g x (wipe σ vs) H' fun σ2 H2 => wipe σ2 vs = wipe σ vs ∧ tt σ2 H2 fun b H3 =>
      if b = true then tk σ2 H3 fun y H4 => tv σ2 H4 fun z H5 => ∃ kvs k, y = kV k ∧ H5 D = some (.dK kvs) ∧ kvs.length < sizeLine ∧ Pv (i + 1) (upd H5 D (.dK (putK kvs k z))) else Pv (i + 1) H3) (hd : ∀ H, Pv n H → Qd H) :
    ∃ W : Nat → Nat → Hp → Prop, (∃ m, W 0 m (upd H1 D (.dK []))) ∧ ∀ i m H, W i m H →
      (J.stop i H ∧ Qd H) ∨ (J.go i H ∧ ∃ Nx : Hp → Prop, (∀ H', Nx H' → ∃ m', m' < m ∧ W (i + 1) m' H') ∧ ∀ x H', J.yld i H x H' → g x (wipe σ vs) H' fun σ2 H2 => wipe σ2 vs = wipe σ vs ∧ tt σ2 H2 fun b H3 =>
        if b = true then tk σ2 H3 fun y H4 => tv σ2 H4 fun z H5 => ∃ kvs k, y = kV k ∧ H5 D = some (.dK kvs) ∧ kvs.length < sizeLine ∧ Nx (upd H5 D (.dK (putK kvs k z))) else Nx H3) := by
  refine ⟨fun i m H => m = n - i ∧ i ≤ n ∧ Pv i H, ⟨n, by simp, Nat.zero_le _, h0⟩, ?_⟩
  rintro i m H ⟨rfl, hi, p⟩
  have q := hG i H hi p
  by_cases hlt : i < n
  · exact .inr ⟨w.goes i H hlt q, Pv (i + 1), fun H' p' => ⟨n - (i + 1), by omega, rfl, hlt, p'⟩, fun x H' y => hs i x H H' hlt p (w.yields i H x H' hlt q y)⟩
  · have e : i = n := by omega
    subst e
    exact .inl ⟨w.stops H q, hd H p⟩
/-- values by names -/
abbrev Rv (H : Hp) (kvs : List (Key × V)) (bs : List (Str × PyData)) : Prop := Paired (fun q a => q.1 = Sum.inr a.1 ∧ Td H q.2 a.2 ∧ vv a.2 = true ∧ Ok 4 10000 a.2) kvs bs
theorem Rv.mono {H H' : Hp} {kvs : List (Key × V)} {bs : List (Str × PyData)} (e : TupS H H') (h : Rv H kvs bs) : Rv H' kvs bs := Paired.mapP h fun _ _ r => ⟨r.1, r.2.1.mono e, r.2.2⟩
theorem Rv.keys {H : Hp} {kvs : List (Key × V)} {bs : List (Str × PyData)} (h : Rv H kvs bs) : kvs.map (·.1) = (bs.map (·.1)).map Sum.inr := by
  induction h with
  | nil => rfl
  | cons r t ih => simp [r.1, ih]
/-- a state at its beginning -/
structure Found (H0 H : Hp) (r : Addr) (bs : List (Str × PyData)) (nm : Str) (pt : V) (ts : List (Str × Kd)) (ys : List V) (bd rd hd : Addr) : Prop where
  at_ : ∃ ft wt fr, H r = some (.tup [.ref bd, .ref rd, .ref ft, .ref wt, .non]) ∧ H ft = some (.tup [.ref fr]) ∧ H wt = some (.tup []) ∧ H fr = some (.tup [.str nm, pt, .int 0, .ref hd])
  bd_ : ∃ kvs, H bd = some (.dK kvs) ∧ Rv H kvs bs
  rd_ : H rd = some (.dK [])
  hd_ : H hd = some (.dK (zipK (ts.map (·.1)) ys))
  nb : H0 bd = none
  nr : H0 rd = none
  nh : H0 hd = none
  br : bd ≠ rd
  bh : bd ≠ hd
  rh : rd ≠ hd
theorem paired_at {α β : Type} {F : α → β → Prop} : ∀ {xs : List α} {ys : List β}, Paired F xs ys → ∀ {i : Nat} {x : α}, xs[i]? = some x → ∃ y, ys[i]? = some y ∧ F x y
  | _, _, .cons r t, 0, x, h => ⟨_, rfl, by cases h; exact r⟩
  | _, _, .cons r t, i + 1, x, h => paired_at t (by simpa using h)
theorem valV_nth {kvs : List (Key × V)} {i : Nat} {q : Key × V} (hn : (kvs.map (·.1)).Nodup) (h : kvs[i]? = some q) : valV kvs q.1 = some q.2 := by
  induction kvs generalizing i with
  | nil => cases h
  | cons p kvs ih =>
    have hn' := List.nodup_cons.mp hn
    unfold valV
    cases i with
    | zero =>
      cases h
      rw [List.find?_cons_of_pos (by simp)]
      rfl
    | succ i =>
      have h : kvs[i]? = some q := by simpa using h
      have ne : p.1 ≠ q.1 := fun e => hn'.1 (by show p.1 ∈ _; rw [e]; exact List.mem_map_of_mem (List.mem_of_getElem? h))
      rw [List.find?_cons_of_neg (by simpa using ne)]
      exact ih hn'.2 h
theorem same_raise {H H1 : Hp} {x dx : Addr} {o1 o2 o3 o4 o5 : HO} (s : Same H H1) (hx : H1 x = none) (hd : H1 dx = none) : Same H (upd (del (upd (upd (upd (upd H1 x o1) dx o2) x o3) dx o4) x) dx o5) := fun b o e => by
  have e1 := s b o e
  have nx := ne_some e1 hx
  have nd := ne_some e1 hd
  rw [upd_ne nd, del_ne nx, upd_ne nd, upd_ne nx, upd_ne nd, upd_ne nx]
  exact e1
theorem Same.none {H H1 : Hp} {x : Addr} (s : Same H H1) (h : H1 x = none) : H x = none := by
  cases c : H x with
  | none => rfl
  | some o => rw [s _ _ c] at h; cases h
def raised (CS : Addr) (nm : Str) (H : Hp) (E : XK) : Prop := ∀ d H', Same H H' → H d = none → H' d = some (.xd [("row", .int (-1)), ("name", .str nm)]) → E (.ref CS) (some d) H'
def spBegun (CS : Addr) : Sp := fun vs H Q E => ∃ (a b d : Addr) (kvb : List (Key × V)) (bs : List (Str × PyData)) (m n : V) (ts : List (Str × Kd)) (g : Kd) (nm : Str) (va : Addr) (ys : List V) (ds : List PyData),
  vs = [.ref a, .str nm, .ref va] ∧ Prg H a b d kvb bs m n ts g ∧ H va = some (.tup ys) ∧ TdAll H ys ds ∧ vvs ds = true ∧ PyData.weightAll ds ≤ 200000 ∧ (∀ d ∈ ds, d.weight ≤ 100000) ∧
  ((nm = "lost" ∧ raised CS nm H E) ∨ ∃ pt tn, ((nm = "main" ∧ pt = m ∧ tn = ts) ∨ (nm = "m" ∧ pt = n ∧ tn = [])) ∧ (okVals tn ds = false → raised CS nm H E) ∧
    (okVals tn ds = true → ∀ r bd rd hd H', Found H H' r bs nm pt tn ys bd rd hd → Same H H' → Q (.ref r) H'))
section
variable {P : Program} {w : World} {K : PySem.W.Frag} {mg : Str → Option Value} {base : Heap}
abbrev sPBegun : Stmt := topS 16
abbrev NPBegun : List Str := ["program", "name", "values", "frame", "_", "boxes", "parts", "box"]
theorem scPBegun : FnScope NPBegun ["program", "name", "values"] (fnScope sPBegun) := ⟨rfl, rfl, rfl, by decide +kernel, rfl, by decide +kernel, by decide +kernel⟩
theorem c_begun (T : Tp mg) {CS fI : Addr} {fdI : FuncData} (S : Sk K mg CS fI fdI) (c_PAreForTakes : Cal P w K mg base 4 "_are_for_takes" spFor []) (c_PFrameAtFirst : Cal P w K mg base 1 "frame_at_first" (spFrame K) [])
    {f : Addr} {fd : FuncData} (D : Def K mg "begun" sPBegun f fd) (b : Binds K fd ["program", "name", "values"] []) : CalX P w K mg base 5 "begun" (spBegun CS) := by
  refine calX0 D b scPBegun (fun vs H Q E h => ?_) (fun cdv A outer s H vs Q E hr h => ?_)
  · obtain ⟨a, b, d, kvb, bs, m, n, ts, g, nm, va, ys, ds, rfl, _⟩ := h
    rfl
  · obtain ⟨a, b, d, kvb, bs, m, n, ts, g, nm, va, ys, ds, rfl, hP, hva, hys, hvs, hwt, hwd, q⟩ := h
    have nd := scPBegun.nd
    have line := sizeLine_eq
    have hu1 : (A.deeper (envOfC "begun" (fnScope sPBegun) s.heap.objs.size f cdv)).units + 1 < cLine := by have := hr.un; omega
    refine ⟨_, (pss_cons (ps_asg (pv 0) (pg_tup rfl (pgs_cons (pg_name (i := 4) nd rfl (.inl rfl)) (pgs_cons (pg_name (i := 5) nd rfl (.inr rfl)) (pgs_cons (pg_name (i := 6) nd rfl (.inl rfl)) pgs_nil)))))
    (pss_cons (ps_if (PW.pt (pw_or (pt_cmp (pc_dnotin hu1 (pv 1) (pv 6))) (pw_or1 (pt_not (pt_val (pe_c c_PAreForTakes hr (by decide) (by rfl) (pa_cons (pe_ix ix_tup (pe_dget hu1 (pv 6) (pv 1) (fun _ _ => rfl)) pe_int (fun _ _ => rfl)) (pa_cons (pv 2) pa_nil))))))))
      (pss_one (L2N.ps_raise rfl (L2N.takes_of rfl rfl rfl rfl) (pmkN_oex S.ox S.ini S.ty (f_init (CX := C8.CX0) S) (hr.mono (by decide)) S.bd C8.pass0 (by rfl) S.gS (pa_cons (pv 1) (pa_cons (pe_un un_neg pe_int) pa_nil)))))
      pss_nil)
    (pss_cons (ps_set (i := 3) nd rfl (.inl rfl) (pe_c c_PFrameAtFirst hr (by decide) (by rfl) (pa_cons (pv 1) (pa_cons (pe_dget hu1 (pv 6) (pv 1) (fun _ _ => rfl)) (pa_cons (pv 2) pa_nil)))))
    (pss_one (ps_ret (pe_tup (pa_cons (pe_lock (pe_dc (own := [("box", 7)]) (g := gName 7) rfl nd (pi_keys (pv 5)) (blkOk_by (own := [("box", 7)]) (N := NPBegun) (sc := fnScope sPBegun) (by decide +kernel)) (fun _ _ _ _ _ => pg_name (i := 7) nd rfl (Or.inl rfl)) (fun _ _ _ _ _ => pts_nil) (fun _ _ _ _ _ => pv 7) (fun _ _ _ _ _ => pe_ix (r := rIxT K) ix_tup (pe_dget hu1 (pv 5) (pv 7) (fun _ _ => rfl)) pe_int (fun _ _ => rfl)))) (pa_cons pe_dnewK (pa_cons (pe_tup (pa_cons (pv 3) pa_nil)) (pa_cons (pe_tup pa_nil) (pa_cons pe_non pa_nil))))))))))), ?_⟩
    have rs : ∀ (H1 : Hp) (σ : L2.St) (Qx : XK), σ[1]? = some (some (.str nm)) → Same H H1 → (∀ d H', Same H H' → H d = none → H' d = some (.xd [("row", .int (-1)), ("name", .str nm)]) → Qx (.ref CS) (some d) H') →
        tMkO CS (spInit CS) [] (tCons (tVar 1) (tCons (tUn (rU fun i => V.int (-i)) (tC (V.int 1))) tNil)) σ H1 Qx := fun H1 σ Qx h1 s1 hq => by
      refine ⟨_, h1, _, rfl, (by show 2 ≤ 1000; decide), fun x hx => ⟨x, .str nm, .int (-1), rfl, upd_same, fun dx hdx ne => ⟨rfl, dx, _, ?_, upd_same, ?_, ?_⟩⟩⟩
      · rw [upd_ne ne.symm]
        exact upd_same
      · rw [upd_ne ne] at hdx
        exact hdx
      · rw [upd_ne ne] at hdx
        exact hq dx _ (same_raise s1 hx hdx) (Same.none s1 hdx) upd_same
    obtain ⟨kd, hat⟩ := hP.at_
    refine ⟨_, rfl, a, _, rfl, SqT.of hat, rfl, _, _, rfl, _, _, rfl, _, _, rfl, rfl, ?_⟩
    refine ⟨_, rfl, _, rfl, d, _, rfl, DGet.k (k := Sum.inr nm) hP.d_, _, rfl, ?_⟩
    rcases q with ⟨rfl, hra⟩ | ⟨pt, tn, hpt, hra, hfo⟩
    · exact iteT' (by rfl) (rs H _ _ rfl (Same.refl H) hra)
    · have hval : valV [((Sum.inr "main" : Key), m), ((Sum.inr "m" : Key), n)] (Sum.inr nm) = some pt := by
        rcases hpt with ⟨rfl, rfl, _⟩ | ⟨rfl, rfl, _⟩
        · rfl
        · rfl
      refine iteF' (by rw [hval]; rfl) ?_
      have hpd : Td H pt (partD tn g) := by
        rcases hpt with ⟨_, rfl, rfl⟩ | ⟨_, rfl, rfl⟩
        · exact hP.m_
        · exact hP.n_
      have htn : KOk 10 tn := by
        rcases hpt with ⟨_, _, rfl⟩ | ⟨_, _, rfl⟩
        · exact hP.tk
        · exact ⟨List.nodup_nil, (fun _ h => nomatch h), (fun _ h => nomatch h), Nat.zero_le _⟩
      obtain ⟨pa, tv, gv, rv, rfl, hpa, htv⟩ := part_at hpd
      have dg : ∀ {H1 : Hp}, Same H H1 → DGet H1 d (.str nm) (some (.ref pa)) := fun s1 => by
        have z := DGet.k (k := (Sum.inr nm : Key)) (s1 _ _ hP.d_)
        rw [hval] at z
        exact z
      refine ⟨_, rfl, _, rfl, d, _, rfl, dg (Same.refl H), pa, _, 0, tv, rfl, rfl, SqT.of hpa, atI_nat (j := 0) rfl, _, rfl, tv, .ref va, tn, ds, rfl, htv, .tup hva hys, hvs, hwt, hwd, htn.len, fun H1 s1 => ⟨_, rfl, ?_⟩⟩
      cases hok : okVals tn ds with
      | false => exact iteT (rs H1 _ _ rfl s1 (hra hok))
      | true =>
        refine iteF ?_
        have hlen : tn.length = ys.length := by
          have h1 := (Bool.and_eq_true_iff.mp hok).1
          have h2 := of_decide_eq_true h1
          have h3 := hys.len
          omega
        refine ⟨_, rfl, _, rfl, _, rfl, d, _, rfl, dg s1, _, rfl, nm, .ref pa, va, ys, tn, g, rfl, hpd.mono (TupS.same s1), s1 _ _ hva, hlen, htn, fun fr hd H2 hfr hhd hnew s2 => ?_⟩
        have s02 := s1.trans s2
        have hb2 : H2 b = some (.dK kvb) := s02 _ _ hP.b_
        refine ⟨b, .dK kvb, hb2, True.intro, fun od => ⟨_, rfl, b, od, rfl, .inl ⟨kvb, upd_same, fun Dl hDl => ?_⟩⟩⟩
        have nbD : b ≠ Dl := fun z => by rw [← z, upd_same] at hDl; cases hDl
        have hD2 : H2 Dl = none := by rw [upd_ne nbD.symm] at hDl; exact hDl
        have hbl : kvb.length ≤ 10 := by
          have h1 := Paired.length hP.bx
          have h2 := hP.bo.len
          omega
        have U0 : TupS H (upd H2 b (.frz od (.dK kvb))) := fun c xs e => by
          have e2 := s02 _ _ e
          have nc : c ≠ b := fun z => by rw [z, hb2] at e2; cases e2
          rw [upd_ne nc]
          exact e2
        have hBX : Rb (upd H2 b (.frz od (.dK kvb))) kvb bs := hP.bx.mono U0
        refine dc_it (walk_keys (d := b) (o := od) (kvs := kvb)) (fun i H' => H' b = some (.frz od (.dK kvb)) ∧ Same (upd H2 b (.frz od (.dK kvb))) H' ∧ ∃ kvs, H' Dl = some (.dK kvs) ∧ Rv H' kvs (bs.take i))
          ⟨by rw [upd_ne nbD]; exact upd_same, Same.new hDl, [], upd_same, .nil⟩ (fun i H' _ hW => hW.1) (fun i x H3 H' hi hW hY => ?_) (fun H' hW => ?_)
        · obtain ⟨hbf, sm, kvs, hkv, hRv⟩ := hW
          obtain ⟨rfl, k, v, hk, rfl⟩ := hY
          obtain ⟨a9, ha9, ek, t9, kv9, u9, rfl, ht9, tu9, vu9, ou9⟩ := paired_at hBX hk
          have ek : k = Sum.inr a9.1 := ek
          subst ek
          have hkl := Paired.length hRv
          rw [List.length_take] at hkl
          have hbl2 := hP.bo.len
          have hndk : (kvb.map (·.1)).Nodup := by
            rw [hP.bx.keys]
            exact List.pairwise_map.mpr (List.Pairwise.imp (fun {a b} n e => n (Sum.inr.inj e)) hP.bo.nd)
          have hget : DGet H' b (.str a9.1) (some (.ref t9)) := by
            have h1 := valV_nth hndk hk
            exact .inl ⟨kvb, Sum.inr a9.1, .inr ⟨od, hbf⟩, rfl, h1.symm⟩
          have hknew : a9.1 ∉ (bs.take i).map (·.1) := fun hm => by
            obtain ⟨y, hy, ey⟩ := List.mem_map.mp hm
            obtain ⟨j, hj, ej⟩ := List.mem_iff_getElem.mp hy
            rw [List.length_take] at hj
            rw [List.getElem_take] at ej
            have il : i < bs.length := (List.getElem?_eq_some_iff.mp ha9).1
            refine absurd ?_ (List.pairwise_iff_getElem.mp hP.bo.nd j i (by rw [List.length_map]; omega) (by rw [List.length_map]; exact il) (by omega))
            rw [List.getElem_map, List.getElem_map, ej, ey, (List.getElem?_eq_some_iff.mp ha9).2]
          refine ⟨rfl, ?_⟩
          unfold tYes; dsimp only
          rw [if_pos rfl]
          refine ⟨_, rfl, _, rfl, _, rfl, b, _, rfl, hget, t9, _, 1, u9, rfl, rfl, SqT.of (sm _ _ ht9), atI_nat (j := 1) rfl, kvs, Sum.inr a9.1, rfl, hkv, by omega, ?_⟩
          rw [putK_new _ (notin_valV hRv.keys hknew)]
          have UD := TupS.dput (o := .dK (kvs ++ [(Sum.inr a9.1, u9)])) hkv
          refine ⟨by rw [upd_ne nbD]; exact hbf, fun c o hc => ?_, _, upd_same, ?_⟩
          · rw [upd_ne (ne_some hc hDl)]
            exact sm _ _ hc
          · rw [take_succ ha9]
            exact paired_snoc (hRv.mono UD) ⟨rfl, (tu9.mono (TupS.same sm)).mono UD, vu9, ou9⟩
        · obtain ⟨hbf, sm, kvs, hkv, hRv⟩ := hW
          have hbk := Paired.length hP.bx
          rw [hbk, List.take_of_length_le (Nat.le_refl _)] at hRv
          refine ⟨hbf, fun rd hrd => ⟨_, rfl, (by show 1 ≤ sizeLine; omega), fun ft hft => ⟨(by show 0 ≤ sizeLine; omega), fun wt hwt => ⟨(by show 5 ≤ sizeLine; omega), fun r hr' => ?_⟩⟩⟩⟩
          have UF : TupS H' (upd H' b (.dK kvb)) := fun c xs e => by
            have nc : c ≠ b := fun z => by rw [z, hbf] at e; cases e
            rw [upd_ne nc]
            exact e
          have sF : Same H (upd H' b (.dK kvb)) := fun c o e => by
            have e2 := s02 _ _ e
            by_cases z : c = b
            · rw [z, hb2] at e2
              cases e2
              rw [z]
              exact upd_same
            · rw [upd_ne z]
              exact sm _ _ (by rw [upd_ne z]; exact e2)
          have hDF : (upd H' b (.dK kvb)) Dl = some (.dK kvs) := by rw [upd_ne nbD.symm]; exact hkv
          have fwd : ∀ c o, c ≠ b → H2 c = some o → (upd H' b (.dK kvb)) c = some o := fun c o n e => by
            rw [upd_ne n]
            exact sm _ _ (by rw [upd_ne n]; exact e)
          have nfb : fr ≠ b := fun z => by rw [z, hb2] at hfr; cases hfr
          have nhb : hd ≠ b := fun z => by rw [z, s1 _ _ hP.b_] at hnew; cases hnew
          have hfrF := fwd _ _ nfb hfr
          have hhdF := fwd _ _ nhb hhd
          have hRF := hRv.mono UF
          generalize upd H' b (.dK kvb) = HF at *
          have sA := (((Same.new (o := .dK []) hrd).trans (Same.new (o := .tup [.ref fr]) hft)).trans (Same.new (o := .tup []) hwt)).trans (Same.new (o := .tup [.ref Dl, .ref rd, .ref ft, .ref wt, .non]) hr')
          refine hfo hok r Dl rd hd _ ⟨⟨ft, wt, fr, upd_same, ?_, ?_, sA _ _ hfrF⟩, ⟨kvs, sA _ _ hDF, hRF.mono (TupS.same sA)⟩, ?_, sA _ _ hhdF, ?_, Same.none sF hrd, Same.none s1 hnew, ?_, ?_, ?_⟩ (sF.trans sA)
          · exact Same.new hr' _ _ (Same.new hwt _ _ upd_same)
          · exact Same.new hr' _ _ upd_same
          · exact Same.new hr' _ _ (Same.new hwt _ _ (Same.new hft _ _ upd_same))
          · exact Same.none s02 hD2
          · exact ne_some hDF hrd
          · exact fun z => by rw [z, hhd] at hD2; cases hD2
          · exact fun z => by rw [z, hhdF] at hrd; cases hrd
end
end K43
set_option Elab.async false
set_option linter.all false
set_option maxRecDepth 100000
set_option maxHeartbeats 2000000
namespace K43
open PySem PySem.Spec PyProof.Rows L2 KD
open C8 (Cal Def cal0 pe_c fnBody fnScope fnArgs)
/-- data that may be compared -/
def Sh (n : Nat) (d : PyData) : Prop := d.canLay0 = true ∧ d.depth ≤ n
theorem Sh.mono {n m : Nat} {d : PyData} (h : Sh n d) (hn : n ≤ m) : Sh m d := ⟨h.1, Nat.le_trans h.2 hn⟩
theorem Sh.str {n : Nat} {z : Str} (h : ∀ c ∈ z.cps.toList, c < 128) : Sh n (.str z) := by
  refine ⟨?_, by simp [PyData.depth]⟩
  simp only [PyData.canLay0, PyData.strOk]
  rw [← Array.all_toList, List.all_eq_true]
  intro c hc
  have := h c hc
  exact decide_eq_true (by omega)
theorem Sh.int {n : Nat} (i : Int) : Sh n (.int i) := ⟨rfl, by simp [PyData.depth]⟩
theorem shAll {n : Nat} : ∀ {ds : List PyData}, (∀ d ∈ ds, Sh n d) → PyData.canLayAll0 ds = true ∧ PyData.depthAll ds ≤ n
  | [], _ => ⟨rfl, by simp [PyData.depthAll]⟩
  | d :: ds, h => by
    have h1 := h d List.mem_cons_self
    have h2 := shAll (ds := ds) fun e he => h e (List.mem_cons_of_mem _ he)
    exact ⟨by simp [PyData.canLayAll0, h1.1, h2.1], by simp only [PyData.depthAll]; exact Nat.max_le.mpr ⟨h1.2, h2.2⟩⟩
theorem Sh.tup {n : Nat} {ds : List PyData} (h : ∀ d ∈ ds, Sh n d) : Sh (n + 1) (.tuple ds) := by
  have := shAll h
  exact ⟨by simpa [PyData.canLay0] using this.1, by simp only [PyData.depth]; omega⟩
theorem Sh.lst {n : Nat} {ds : List PyData} (h : ∀ d ∈ ds, Sh n d) : Sh (n + 1) (.list ds) := by
  have := shAll h
  exact ⟨by simpa [PyData.canLay0] using this.1, by simp only [PyData.depth]; omega⟩
theorem Sh.shaped {n : Nat} {d : PyData} (h : Sh n d) (hn : n ≤ 64) : SeqAt.shaped d = true := by
  have := h.2
  show (d.canLay0 && decide (d.depth ≤ 64)) = true
  rw [h.1, decide_eq_true (by omega)]
  rfl
theorem mem2 {α : Type} {p : α → Prop} {a b : α} (ha : p a) (hb : p b) : ∀ d ∈ [a, b], p d := fun d h => by
  rcases List.mem_cons.mp h with rfl | h
  · exact ha
  · rw [List.mem_singleton.mp h]; exact hb
theorem mem3 {α : Type} {p : α → Prop} {a b c : α} (ha : p a) (hb : p b) (hc : p c) : ∀ d ∈ [a, b, c], p d := fun d h => by
  rcases List.mem_cons.mp h with rfl | h
  · exact ha
  · exact mem2 hb hc d h
theorem mem1 {α : Type} {p : α → Prop} {a : α} (ha : p a) : ∀ d ∈ [a], p d := fun d h => by rw [List.mem_singleton.mp h]; exact ha
theorem kd_sh : ∀ {k : Kd}, k.ok → Sh (k.deep + 1) k.d
  | .num, _ => Sh.tup (mem1 (.str (asc_of (z := "number") (by decide +kernel))))
  | .tru, _ => Sh.tup (mem1 (.str (asc_of (z := "truth") (by decide +kernel))))
  | .rcd z, h => Sh.tup (mem2 (.str (asc_of (z := "record") (by decide +kernel))) (.str (asc_of h.1)))
  | .lst k, h => Sh.tup (mem2 (.str (asc_of (z := "list") (by decide +kernel))) (kd_sh (k := k) h))
theorem part_sh {ts : List (Str × Kd)} {g : Kd} (ht : KOk 10 ts) (hg : g.ok ∧ g.deep ≤ 3) : Sh 7 (partD ts g) := by
  refine Sh.tup (n := 6) (mem3 ?_ ((kd_sh hg.1).mono (by omega)) ((Sh.tup (n := 5) (mem1 (Sh.tup (n := 4) (mem2 (.str (asc_of (z := "go") (by decide +kernel))) (.int 0)))))))
  refine (Sh.tup (n := 5) fun d hd => ?_)
  obtain ⟨a, ha, rfl⟩ := List.mem_map.mp hd
  have hk := ht.ok a ha
  exact Sh.tup (n := 4) (mem2 (.str (ht.nm a ha).2) ((kd_sh hk.1).mono (by omega)))
theorem dp_strs {K : PySem.W.Frag} {H : Hp} : ∀ zs : List Str, DpAll K H (zs.map V.str) (zs.map PyData.str)
  | [] => .nil
  | z :: zs => .cons (.str z) (dp_strs zs)
theorem strs_sh {zs : List Str} (h : ∀ z ∈ zs, Nm z) : Sh 1 (.list (zs.map PyData.str)) := Sh.lst (n := 0) fun d hd => by
  obtain ⟨z, hz, rfl⟩ := List.mem_map.mp hd
  exact .str (h z hz).2
section
variable {P : Program} {w : World} {K : PySem.W.Frag} {mg : Str → Option Value} {base : Heap}
abbrev sLRight : Stmt := topS 30
abbrev NLRight : List Str := ["_law_found", "_law_program_here", "_law_name", "_law_values_here", "_law_boxes", "_law_held", "_law_takes", "_law_value", "_law_one", "_law_take_here", "_law_kind_here"]
theorem scLRight : FnScope NLRight ["_law_found", "_law_program_here", "_law_name", "_law_values_here"] (fnScope sLRight) := ⟨rfl, rfl, rfl, by decide +kernel, rfl, by decide +kernel, by decide +kernel⟩
def spRight : Sp := fun vs H Q E => ∃ (H0 : Hp) (r a b d : Addr) (kvb : List (Key × V)) (bs : List (Str × PyData)) (m n pt : V) (ts tn : List (Str × Kd)) (g : Kd) (nm : Str) (va : Addr) (ys : List V) (ds : List PyData) (bd rd hd : Addr),
  vs = [.ref r, .ref a, .str nm, .ref va] ∧ Prg H a b d kvb bs m n ts g ∧ H va = some (.tup ys) ∧ TdAll H ys ds ∧ vvs ds = true ∧ OkAll 4 200000 ds ∧ (∀ d ∈ ds, d.weight ≤ 100000) ∧ tn.length = ys.length ∧
  ((nm = "main" ∧ pt = m ∧ tn = ts) ∨ (nm = "m" ∧ pt = n ∧ tn = [])) ∧ Found H0 H r bs nm pt tn ys bd rd hd ∧ bd ≠ b ∧ ∀ H', Same H H' → Q (.bl true) H'
theorem c_right (T : Tp mg) (c_LSame : Cal P w K mg base 7 "_law_same" (spSame 6) []) {f : Addr} {fd : FuncData} (D : Def K mg "_law_right" sLRight f fd) (b : Binds K fd ["_law_found", "_law_program_here", "_law_name", "_law_values_here"] []) : Cal P w K mg base 8 "_law_right" spRight [] := by
  refine cal0 D b .nil scLRight (fun vs H Q E h => ?_) (fun cdv A outer s H vs Q E hr h => ?_)
  · obtain ⟨H0, r, a, b, d, kvb, bs, m, n, pt, ts, tn, g, nm, va, ys, ds, bd, rd, hd, rfl, _⟩ := h
    rfl
  · obtain ⟨H0, r, a, b, d, kvb, bs, m, n, pt, ts, tn, g, nm, va, ys, ds, bd, rd, hd, rfl, hP, hva, hys, hvs, hok, hwd, hlen, hpt, hF, nbb, q⟩ := h
    have nd := scLRight.nd
    have line := sizeLine_eq
    have hu0 : (A.deeper (envOfC "_law_right" (fnScope sLRight) s.heap.objs.size f cdv)).units < cLine := by have := hr.un; omega
    have hu1 : (A.deeper (envOfC "_law_right" (fnScope sLRight) s.heap.objs.size f cdv)).units + 1 < cLine := by have := hr.un; omega
    have hu64 : (A.deeper (envOfC "_law_right" (fnScope sLRight) s.heap.objs.size f cdv)).units + 64 < cLine := by have := hin_of hr; omega
    refine ⟨_, (pss_cons (ps_if (PW.pt (pw_or (pt_not (pt_val (pe_callB call_isi (by rfl) T.n_isinstance (by decide +kernel) (pa_cons (pv 0) (pa_cons (pe_bltn (v := .ty "tuple") (by rfl) T.n_tuple (by decide +kernel) rfl) pa_nil))))) (pw_or (pt_cmpR op_ne (pe_callB call_len_seq (by rfl) T.n_len (by decide +kernel) (pa_cons (pv 0) pa_nil)) pe_int (nomark _)) (pw_or (pt_cmpR (op_neE hu0) (pe_ix ix_tup (pv 0) pe_int (fun _ _ => rfl)) pe_dnewK (nomark _)) (pw_or (pt_cmpR (op_neTNil hu64) (pe_ix ix_tup (pv 0) pe_int (fun _ _ => rfl)) (pe_tup pa_nil) (nomark _)) (pw_or1 (pt_cmpR op_notN (pe_ix ix_tup (pv 0) pe_int (fun _ _ => rfl)) pe_non (nomark _))))))))
      (pss_one (ps_ret pe_bl))
      pss_nil)
    (pss_cons (ps_set (i := 4) nd rfl (.inr rfl) (pe_ix ix_tup (pv 1) pe_int (fun _ _ => rfl)))
    (pss_cons (ps_if (PW.pt (pw_or (pt_cmpR (op_neD hr.units) (pe_callB (call_sortedD rfl) (by rfl) T.n_sorted (by decide +kernel) (pa_cons (pe_ix ix_tup (pv 0) pe_int (fun _ _ => rfl)) pa_nil)) (pe_callB (call_sortedD rfl) (by rfl) T.n_sorted (by decide +kernel) (pa_cons (pv 4) pa_nil)) (nomark _)) (pw_or1 (pt_not (pt_val (pe_callB (cr_all rfl) (by rfl) T.n_all (by decide +kernel) (pa_cons (pe_lock (pe_lc (own := [("_law_one", 8)]) (g := gName 8) (by rfl) nd (pi_keys (pv 4)) (blkOk_by (own := [("_law_one", 8)]) (N := NLRight) (sc := fnScope sLRight) (by decide +kernel)) (fun _ _ _ _ _ => pg_name (i := 8) nd rfl (Or.inl rfl)) (fun _ _ _ _ _ => pts_nil) (fun _ _ _ _ _ => (pe_c c_LSame hr (by decide) (by rfl) (pa_cons (pe_dget hu1 (pe_ix (r := rIxT K) ix_tup (pv 0) pe_int (fun _ _ => rfl)) (pv 8) (fun _ _ => rfl)) (pa_cons (pe_ix (r := rIxT K) ix_tup (pe_dget hu1 (pv 4) (pv 8) (fun _ _ => rfl)) pe_int (fun _ _ => rfl)) pa_nil)))))) pa_nil)))))))
      (pss_one (ps_ret pe_bl))
      pss_nil)
    (pss_cons (ps_if (PW.pt (pw_or (pt_cmpR op_ne (pe_callB call_len_seq (by rfl) T.n_len (by decide +kernel) (pa_cons (pe_ix ix_tup (pv 0) pe_int (fun _ _ => rfl)) pa_nil)) pe_int (nomark _)) (pw_or1 (pt_cmpR (op_neD hr.units) (pe_slice sl_tupA (pe_ix ix_tup (pe_ix ix_tup (pv 0) pe_int (fun _ _ => rfl)) pe_int (fun _ _ => rfl)) po_none (po_some pe_int)) (pe_tup (pa_cons (pv 2) (pa_cons (pe_dget hu1 (pe_ix ix_tup (pv 1) pe_int (fun _ _ => rfl)) (pv 2) (fun _ _ => rfl)) (pa_cons pe_int pa_nil)))) (nomark _)))))
      (pss_one (ps_ret pe_bl))
      pss_nil)
    (pss_cons (ps_set (i := 5) nd rfl (.inr rfl) (pe_ix ix_tup (pe_ix ix_tup (pe_ix ix_tup (pv 0) pe_int (fun _ _ => rfl)) pe_int (fun _ _ => rfl)) pe_int (fun _ _ => rfl)))
    (pss_cons (ps_set (i := 6) nd rfl (.inl rfl) (pe_ix ix_tup (pe_dget hu1 (pe_ix ix_tup (pv 1) pe_int (fun _ _ => rfl)) (pv 2) (fun _ _ => rfl)) pe_int (fun _ _ => rfl)))
    (pss_cons (ps_if (pt_cmpR (op_neD hr.units) (pe_callB (call_sortedD rfl) (by rfl) T.n_sorted (by decide +kernel) (pa_cons (pv 5) pa_nil)) (pe_callB cr_sortedS (by rfl) T.n_sorted (by decide +kernel) (pa_cons (pe_lc (own := [("_law_take_here", 9), ("_law_kind_here", 10)]) (g := gTup K 2 (gCons (gName 9) (gCons (gName 10) gNil))) (by rfl) nd (pi_tup (pv 6)) (blkOk_by (own := [("_law_take_here", 9), ("_law_kind_here", 10)]) (N := NLRight) (sc := fnScope sLRight) (by decide +kernel)) (fun _ _ _ _ _ => (pg_tup (n := 2) rfl (pgs_cons (pg_name (i := 9) nd rfl (Or.inl rfl)) (pgs_cons (pg_name (i := 10) nd rfl (Or.inl rfl)) pgs_nil)))) (fun _ _ _ _ _ => pts_nil) (fun _ _ _ _ _ => (pv 9))) pa_nil)) (nomark _))
      (pss_one (ps_ret pe_bl))
      pss_nil)
    (pss_one (ps_ret (pe_callB (cr_all rfl) (by rfl) T.n_all (by decide +kernel) (pa_cons (pe_lc (own := [("_law_value", 7), ("_law_take_here", 9), ("_law_kind_here", 10)]) (g := gTup K 2 (gCons (gTup K 2 (gCons (gName 9) (gCons (gName 10) gNil))) (gCons (gName 7) gNil))) (by rfl) nd (RZ.pi_zipA (by rfl) T.n_zip (pa_cons (pv 6) (pa_cons (pv 3) pa_nil))) (blkOk_by (own := [("_law_value", 7), ("_law_take_here", 9), ("_law_kind_here", 10)]) (N := NLRight) (sc := fnScope sLRight) (by decide +kernel)) (fun _ _ _ _ _ => (pg_tup (n := 2) rfl (pgs_cons (pg_tup (n := 2) rfl (pgs_cons (pg_name (i := 9) nd rfl (Or.inl rfl)) (pgs_cons (pg_name (i := 10) nd rfl (Or.inl rfl)) pgs_nil))) (pgs_cons (pg_name (i := 7) nd rfl (Or.inl rfl)) pgs_nil)))) (fun _ _ _ _ _ => pts_nil) (fun _ _ _ _ _ => (pe_c c_LSame hr (by decide) (by rfl) (pa_cons (pe_dget hu1 (pv 5) (pv 9) (fun _ _ => rfl)) (pa_cons (pv 7) pa_nil))))) pa_nil))))))))))), ?_⟩
    obtain ⟨ft, wt, fr, hrt, hft, hwt, hfr⟩ := hF.at_
    obtain ⟨kvd, hbd, hRv⟩ := hF.bd_
    obtain ⟨kd, hat⟩ := hP.at_
    have hpd : Td H pt (partD tn g) := by
      rcases hpt with ⟨_, rfl, rfl⟩ | ⟨_, rfl, rfl⟩
      · exact hP.m_
      · exact hP.n_
    have htn : KOk 10 tn := by
      rcases hpt with ⟨_, _, rfl⟩ | ⟨_, _, rfl⟩
      · exact hP.tk
      · exact ⟨List.nodup_nil, (fun _ h => nomatch h), (fun _ h => nomatch h), Nat.zero_le _⟩
    have hval : valV [((Sum.inr "main" : Key), m), ((Sum.inr "m" : Key), n)] (Sum.inr nm) = some pt := by
      rcases hpt with ⟨rfl, rfl, _⟩ | ⟨rfl, rfl, _⟩
      · rfl
      · rfl
    have hnm : Nm nm := by
      rcases hpt with ⟨rfl, _⟩ | ⟨rfl, _⟩
      · exact ⟨by decide +kernel, asc_of (by decide +kernel)⟩
      · exact ⟨by decide +kernel, asc_of (by decide +kernel)⟩
    obtain ⟨pa, tv, gv, rv, rfl, hpa, htv⟩ := part_at hpd
    obtain ⟨ta, txs, rfl, hta, htx⟩ := tup_at htv
    have htl := htx.len
    rw [List.length_map] at htl
    have hkl := htn.len
    have dg : ∀ {H1 : Hp}, Same H H1 → DGet H1 d (.str nm) (some (.ref pa)) := fun s1 => by
      have z := DGet.k (k := (Sum.inr nm : Key)) (s1 _ _ hP.d_)
      rw [hval] at z
      exact z
    have hbl : bs.length ≤ 10 := hP.bo.len
    refine ⟨_, rfl, .ref r, .ty "tuple", .type "tuple", .type "tuple", true, rfl, .ty "tuple", .base (.tup hrt), kit_ty (by decide +kernel), _, rfl, iteF ?_⟩
    refine ⟨_, rfl, r, _, rfl, .inr (SqT.of hrt), rfl, _, rfl, iteF' (by rfl) ?_⟩
    refine ⟨_, rfl, r, _, 1, .ref rd, rfl, rfl, SqT.of hrt, atI_nat (j := 1) rfl, fun e he => ⟨rd, e, [], rfl, rfl, Same.new he _ _ hF.rd_, upd_same, _, rfl, iteF ?_⟩⟩
    have s1 : Same H (upd H e (.dK [])) := Same.new he
    generalize upd H e (.dK []) = H1 at *
    refine ⟨_, rfl, r, _, 3, .ref wt, rfl, rfl, SqT.of (s1 _ _ hrt), atI_nat (j := 3) rfl, (by show 0 ≤ sizeLine; omega), fun t ht => ⟨wt, t, [], rfl, rfl, SqT.of (Same.new ht _ _ (s1 _ _ hwt)), SqT.of upd_same, _, rfl, iteF ?_⟩⟩
    have s2 := s1.trans (Same.new (o := .tup []) ht)
    generalize upd H1 t (.tup []) = H2 at *
    refine ⟨_, rfl, r, _, 4, .non, rfl, rfl, SqT.of (s2 _ _ hrt), atI_nat (j := 4) rfl, rfl, _, rfl, iteF ?_⟩
    refine ⟨_, rfl, a, _, 1, .ref b, rfl, rfl, SqT.of (s2 _ _ hat), atI_nat (j := 1) rfl, ?_⟩
    refine ⟨_, rfl, r, _, 0, .ref bd, rfl, rfl, SqT.of (s2 _ _ hrt), atI_nat (j := 0) rfl, bd, kvd, bs.map (·.1), rfl, .inl (s2 _ _ hbd), hRv.keys, by rw [List.length_map]; omega, fun z1 l1 pm1 so1 hl1 => ?_⟩
    have s3 := s2.trans (Same.new (o := .lst (z1.map V.str)) hl1)
    have hl1' : (upd H2 l1 (.lst (z1.map V.str))) l1 = some (.lst (z1.map V.str)) := upd_same
    generalize upd H2 l1 (.lst (z1.map V.str)) = H3 at *
    refine ⟨_, rfl, b, kvb, bs.map (·.1), rfl, .inl (s3 _ _ hP.b_), hP.bx.keys, by rw [List.length_map]; omega, fun z2 l2 pm2 so2 hl2 => ?_⟩
    have ez := sortedS_uniq z1 z2 (pm1.trans pm2.symm) so1 so2
    subst ez
    have zsh : SeqAt.shaped (.list (z1.map PyData.str)) = true := (strs_sh fun z hz => by
      obtain ⟨y, hy, e⟩ := List.mem_map.mp (pm1.mem_iff.mp hz)
      rw [← e]
      exact hP.bo.nm y hy).shaped (by decide)
    refine ⟨.list (z1.map PyData.str), .list (z1.map PyData.str), .lst (SqL.of (Same.new hl2 _ _ hl1')) (dp_strs z1), .lst (SqL.of upd_same) (dp_strs z1), zsh, zsh, _, rfl, iteF' (by rw [SeqAt.eqv_refl _ (SeqAt.canLay_of_shaped zsh)]; rfl) ?_⟩
    have s4 := s3.trans (Same.new (o := .lst (z1.map V.str)) hl2)
    generalize upd H3 l2 (.lst (z1.map V.str)) = H4 at *
    clear hl1' hl1 hl2
    have hb4 := s4 _ _ hP.b_
    have hbd4 := s4 _ _ hbd
    refine ⟨b, .dK kvb, hb4, True.intro, fun od => ⟨_, rfl, b, od, rfl, .inl ⟨kvb, upd_same, fun Dl hDl => ?_⟩⟩⟩
    have nbD : b ≠ Dl := fun z => by rw [← z, upd_same] at hDl; cases hDl
    have U0 : TupS H (upd H4 b (.frz od (.dK kvb))) := fun c xs e => by
      have e2 := s4 _ _ e
      have nc : c ≠ b := fun z => by rw [z, hb4] at e2; cases e2
      rw [upd_ne nc]
      exact e2
    have hBX : Rb (upd H4 b (.frz od (.dK kvb))) kvb bs := hP.bx.mono U0
    have hRV : Rv (upd H4 b (.frz od (.dK kvb))) kvd bs := hRv.mono U0
    have hrt4 := U0 _ _ hrt
    have hbdf : (upd H4 b (.frz od (.dK kvb))) bd = some (.dK kvd) := by rw [upd_ne nbb]; exact hbd4
    refine lc_it (walk_keys (d := b) (o := od) (kvs := kvb)) (fun i H' => H' b = some (.frz od (.dK kvb)) ∧ H' Dl = some (.lst ((List.replicate i true).map V.bl)) ∧ Same (upd H4 b (.frz od (.dK kvb))) H' ∧ i ≤ 10000)
      ⟨by rw [upd_ne nbD]; exact upd_same, upd_same, Same.new hDl, Nat.zero_le _⟩ (fun i H' _ hW => hW.1) (fun i x H5 H' hi hW hY => ?_) (fun H' hW => ?_)
    · obtain ⟨hbf, hat', sm, _⟩ := hW
      obtain ⟨rfl, k, v, hk, rfl⟩ := hY
      obtain ⟨a9, ha9, ek, t9, kv9, u9, rfl, ht9, tu9, vu9, ou9⟩ := paired_at hBX hk
      have ek : k = Sum.inr a9.1 := ek
      subst ek
      have il : i < bs.length := (List.getElem?_eq_some_iff.mp ha9).1
      have hdl := Paired.length hRV
      obtain ⟨q9, hq9⟩ : ∃ q9, kvd[i]? = some q9 := ⟨_, List.getElem?_eq_getElem (by omega)⟩
      obtain ⟨a8, ha8, e8, tq9, _, _⟩ := paired_at hRV hq9
      rw [ha9] at ha8
      cases ha8
      have ndb : (kvb.map (·.1)).Nodup := by
        rw [hP.bx.keys]
        exact List.pairwise_map.mpr (List.Pairwise.imp (fun {a b} n e => n (Sum.inr.inj e)) hP.bo.nd)
      have ndd : (kvd.map (·.1)).Nodup := by
        rw [hRv.keys]
        exact List.pairwise_map.mpr (List.Pairwise.imp (fun {a b} n e => n (Sum.inr.inj e)) hP.bo.nd)
      have hget : DGet H' b (.str a9.1) (some (.ref t9)) := .inl ⟨kvb, Sum.inr a9.1, .inr ⟨od, hbf⟩, rfl, (valV_nth ndb hk).symm⟩
      have hget2 : DGet H' bd (.str a9.1) (some q9.2) := by
        have h1 := valV_nth ndd hq9
        rw [e8] at h1
        exact .inl ⟨kvd, Sum.inr a9.1, .inl (sm _ _ hbdf), rfl, h1.symm⟩
      refine ⟨rfl, ?_⟩
      unfold tYes; dsimp only
      rw [if_pos rfl]
      refine ⟨_, rfl, r, _, 0, .ref bd, rfl, rfl, SqT.of (sm _ _ hrt4), atI_nat (j := 0) rfl, _, rfl, bd, _, rfl, hget2, _, rfl, _, rfl, b, _, rfl, hget, t9, _, 1, u9, rfl, rfl, SqT.of (sm _ _ ht9), atI_nat (j := 1) rfl, q9.2, u9, a9.2, rfl, tq9.mono (TupS.same sm), tu9.mono (TupS.same sm), vu9, Nat.le_trans ou9.wt (by decide), Nat.lt_of_le_of_lt ou9.dep (by decide), fun H6 s6 => ?_⟩
      refine ⟨_, s6 _ _ hat', by rw [List.length_map, List.length_replicate]; omega, ?_, ?_, fun c o hc => ?_, by omega⟩
      · rw [upd_ne nbD]; exact s6 _ _ hbf
      · rw [List.replicate_succ', List.map_append]
        exact upd_same
      · rw [upd_ne (ne_some hc hDl)]
        exact s6 _ _ (sm _ _ hc)
    · obtain ⟨hbf, hat', sm, _⟩ := hW
      refine ⟨hbf, Dl, _, rfl, SqL.of (by rw [upd_ne nbD.symm]; exact hat'), ?_⟩
      rw [all_replicate]
      refine ⟨_, rfl, iteF ?_⟩
      have s5 : Same H (upd H' b (.dK kvb)) := fun c o e => by
        have e2 := s4 _ _ e
        by_cases z : c = b
        · rw [z, hb4] at e2
          cases e2
          rw [z]
          exact upd_same
        · rw [upd_ne z]
          exact sm _ _ (by rw [upd_ne z]; exact e2)
      generalize upd H' b (.dK kvb) = H5 at *
      refine ⟨_, rfl, r, _, 2, .ref ft, rfl, rfl, SqT.of (s5 _ _ hrt), atI_nat (j := 2) rfl, ft, _, rfl, .inr (SqT.of (s5 _ _ hft)), rfl, _, rfl, iteF' (by rfl) ?_⟩
      refine ⟨_, rfl, r, _, 2, .ref ft, rfl, rfl, SqT.of (s5 _ _ hrt), atI_nat (j := 2) rfl, ft, _, 0, .ref fr, rfl, rfl, SqT.of (s5 _ _ hft), atI_nat (j := 0) rfl, _, rfl, fr, _, rfl, SqT.of (s5 _ _ hfr), fun c => absurd c.2 (by show ¬ (HT.sIx 4 4 (some 3) = 4); decide), fun _ t3 ht3 => ?_⟩
      have ecut : cutV [V.str nm, .ref pa, .int 0, .ref hd] none (some 3) = [.str nm, .ref pa, .int 0] := by rfl
      rw [ecut]
      have s6 := s5.trans (Same.new (o := .tup [.str nm, .ref pa, .int 0]) ht3)
      have ht3' : (upd H5 t3 (.tup [.str nm, .ref pa, .int 0])) t3 = some (.tup [.str nm, .ref pa, .int 0]) := upd_same
      generalize upd H5 t3 (.tup [.str nm, .ref pa, .int 0]) = H6 at *
      refine ⟨_, rfl, _, rfl, a, _, 2, .ref d, rfl, rfl, SqT.of (s6 _ _ hat), atI_nat (j := 2) rfl, _, rfl, d, _, rfl, dg s6, (by show 3 ≤ sizeLine; omega), fun t4 ht4 => ?_⟩
      have s7 := s6.trans (Same.new (o := .tup [.str nm, .ref pa, .int 0]) ht4)
      have dsh : SeqAt.shaped (.tuple [.str nm, partD tn g, .int 0]) = true := (Sh.tup (mem3 (.str hnm.2) (part_sh htn hP.g_) (.int 0))).shaped (by decide)
      have td : ∀ {H9 : Hp} {x : Addr}, Same H H9 → H9 x = some (.tup [.str nm, .ref pa, .int 0]) → Td H9 (.ref x) (.tuple [.str nm, partD tn g, .int 0]) := fun sx hx => .tup hx (.cons (.str _) (.cons (hpd.mono (TupS.same sx)) (.cons (.int 0) .nil)))
      refine ⟨_, _, (td s7 (Same.new ht4 _ _ ht3')).p, (td s7 upd_same).p, dsh, dsh, _, rfl, iteF' (by rw [SeqAt.eqv_refl _ (SeqAt.canLay_of_shaped dsh)]; rfl) ?_⟩
      generalize upd H6 t4 (.tup [.str nm, .ref pa, .int 0]) = H7 at *
      refine ⟨_, rfl, r, _, 2, .ref ft, rfl, rfl, SqT.of (s7 _ _ hrt), atI_nat (j := 2) rfl, ft, _, 0, .ref fr, rfl, rfl, SqT.of (s7 _ _ hft), atI_nat (j := 0) rfl, fr, _, 3, .ref hd, rfl, rfl, SqT.of (s7 _ _ hfr), atI_nat (j := 3) rfl, ?_⟩
      refine ⟨_, rfl, a, _, 2, .ref d, rfl, rfl, SqT.of (s7 _ _ hat), atI_nat (j := 2) rfl, _, rfl, d, _, rfl, dg s7, pa, _, 0, .ref ta, rfl, rfl, SqT.of (s7 _ _ hpa), atI_nat (j := 0) rfl, ?_⟩
      have hzl : (tn.map (·.1)).length = ys.length := by rw [List.length_map]; exact hlen
      refine ⟨_, rfl, hd, _, tn.map (·.1), rfl, .inl (s7 _ _ hF.hd_), zipK_keys hzl, by rw [List.length_map]; omega, fun z1 l1 pm1 so1 hl1 => ?_⟩
      have s8 := s7.trans (Same.new (o := .lst (z1.map V.str)) hl1)
      have hl1' : (upd H7 l1 (.lst (z1.map V.str))) l1 = some (.lst (z1.map V.str)) := upd_same
      generalize upd H7 l1 (.lst (z1.map V.str)) = H8 at *
      refine ⟨_, rfl, ta, rfl, ⟨txs, SqT.of (s8 _ _ hta)⟩, fun D2 hD2 => ?_⟩
      refine lc_tup (xs := txs) (fun i H' => H' D2 = some (.lst (((tn.take i).map (·.1)).map V.str)) ∧ Same H8 H') ⟨upd_same, Same.new hD2⟩ (fun i H' hi hW => SqT.of (hW.2 _ _ (s8 _ _ hta))) (fun i x H' hx hW => ?_) (fun H' hW => ?_)
      · obtain ⟨hat', sm⟩ := hW
        obtain ⟨d9, hd9, td9⟩ := tdAll_at htx hx
        obtain ⟨a9, ha9, rfl⟩ := take_get hd9
        have hil := (List.getElem?_eq_some_iff.mp ha9).1
        obtain ⟨t9, kv9, rfl, ht9, tk9⟩ := take_at td9
        refine ⟨t9, _, rfl, SqT.of (sm _ _ (s8 _ _ ht9)), rfl, _, _, rfl, _, _, rfl, rfl, rfl, ?_⟩
        unfold tYes; dsimp only
        rw [if_pos rfl]
        refine ⟨_, rfl, _, hat', by rw [List.length_map, List.length_map, List.length_take]; omega, ?_, fun b o hb => ?_⟩
        · rw [take_succ ha9, List.map_append, List.map_append]
          exact upd_same
        · rw [upd_ne (fun z => by rw [z, hD2] at hb; cases hb)]
          exact sm _ _ hb
      · obtain ⟨hat', sm⟩ := hW
        rw [htl, List.take_of_length_le (Nat.le_refl _)] at hat'
        refine ⟨D2, tn.map (·.1), rfl, SqL.of hat', by rw [List.length_map]; omega, fun z2 l2 pm2 so2 hl2 => ?_⟩
        have ez := sortedS_uniq z1 z2 (pm1.trans pm2.symm) so1 so2
        subst ez
        have zsh : SeqAt.shaped (.list (z1.map PyData.str)) = true := (strs_sh fun z hz => by
          obtain ⟨y, hy, e⟩ := List.mem_map.mp (pm1.mem_iff.mp hz)
          rw [← e]
          exact htn.nm y hy).shaped (by decide)
        have s9 := (s8.trans sm).trans (Same.new (o := .lst (z1.map V.str)) hl2)
        refine ⟨.list (z1.map PyData.str), .list (z1.map PyData.str), .lst (SqL.of (Same.new hl2 _ _ (sm _ _ hl1'))) (dp_strs z1), .lst (SqL.of upd_same) (dp_strs z1), zsh, zsh, _, rfl, iteF' (by rw [SeqAt.eqv_refl _ (SeqAt.canLay_of_shaped zsh)]; rfl) ?_⟩
        generalize upd H' l2 (.lst (z1.map V.str)) = H9 at *
        have hvl := hys.len
        have hzk : (zipK (tn.map (·.1)) ys).map (·.1) = (tn.map (·.1)).map Sum.inr := zipK_keys hzl
        have hznd : ((zipK (tn.map (·.1)) ys).map (·.1)).Nodup := by
          rw [hzk]
          exact List.pairwise_map.mpr (List.Pairwise.imp (fun {a b} n e => n (Sum.inr.inj e)) htn.nd)
        refine ⟨_, rfl, _, rfl, ta, va, txs, ys, rfl, .inr ⟨SqT.of (s9 _ _ hta), SqT.of (s9 _ _ hva), fun D3 hD3 => ?_⟩⟩
        refine lc_it (walk_zipT (K := K) (a := ta) (b := va) (xs := txs) (ys := ys) (n := tn.length) (by omega)) (fun i H' => H' D3 = some (.lst ((List.replicate i true).map V.bl)) ∧ Same H9 H' ∧ i ≤ 100)
          ⟨upd_same, Same.new hD3, Nat.zero_le _⟩ (fun i H' _ hW => ⟨SqT.of (hW.2.1 _ _ (s9 _ _ hta)), SqT.of (hW.2.1 _ _ (s9 _ _ hva))⟩) (fun i x H2 H' hi hW hY => ?_) (fun H' hW => ?_)
        · obtain ⟨hat3, sm3, _⟩ := hW
          obtain ⟨T9, x9, y9, rfl, hT9, rfl, hx9, hy9⟩ := hY
          have hx9 : txs[i]? = some x9 := hx9
          have hy9 : ys[i]? = some y9 := hy9
          obtain ⟨d9, hd9, td9⟩ := tdAll_at htx hx9
          obtain ⟨a9, ha9, rfl⟩ := take_get hd9
          obtain ⟨e9, he9, teq⟩ := tdAll_at hys hy9
          obtain ⟨t9, kv9, rfl, ht9, tk9⟩ := take_at td9
          have sT := (s9.trans sm3).trans (Same.new (o := .tup [.ref t9, y9]) hT9)
          have hmem := List.mem_of_getElem? he9
          have hzi : (zipK (tn.map (·.1)) ys)[i]? = some (Sum.inr a9.1, y9) := by
            unfold zipK
            have e : ((tn.map (·.1)).zip ys)[i]? = some (a9.1, y9) := List.getElem?_zip_eq_some.mpr ⟨by rw [List.getElem?_map, ha9]; rfl, hy9⟩
            rw [List.getElem?_map, e]
            rfl
          have hget : ∀ {Hx : Hp}, Same H Hx → DGet Hx hd (.str a9.1) (some y9) := fun sx => .inl ⟨_, Sum.inr a9.1, .inl (sx _ _ hF.hd_), rfl, (valV_nth hznd hzi).symm⟩
          refine ⟨T9, _, rfl, SqT.of upd_same, rfl, _, _, rfl, ⟨t9, _, rfl, SqT.of (sT _ _ ht9), rfl, _, _, rfl, _, _, rfl, rfl, _, _, rfl, rfl, rfl, ?_⟩⟩
          unfold tYes; dsimp only
          rw [if_pos rfl]
          have hdp := depth_mem hmem
          have hod := hok.dep
          refine ⟨_, rfl, _, rfl, hd, _, rfl, hget sT, _, rfl, y9, y9, e9, rfl, teq.mono (TupS.same sT), teq.mono (TupS.same sT), vv_mem hvs hmem, hwd _ hmem, by omega, fun H3 s3 => ?_⟩
          refine ⟨_, s3 _ _ (Same.new hT9 _ _ hat3), by rw [List.length_map, List.length_replicate]; omega, ?_, fun b o hb => ?_, by omega⟩
          · rw [List.replicate_succ', List.map_append]
            exact upd_same
          · rw [upd_ne (ne_some hb hD3)]
            exact s3 _ _ (Same.new hT9 _ _ (sm3 _ _ hb))
        · obtain ⟨hat3, sm3, _⟩ := hW
          refine ⟨D3, _, rfl, SqL.of hat3, ?_⟩
          rw [all_replicate]
          exact q H' (s9.trans sm3)
end
end K43
set_option Elab.async false
set_option linter.all false
set_option maxRecDepth 100000
set_option maxHeartbeats 2000000
namespace K43
open PySem PySem.Spec PyProof.Rows L2 KD L2H
open C8 (Cal Def cal0 pe_c fnBody fnScope fnArgs)
/-- the classes -/
structure Ex (K : PySem.W.Frag) (mg : Str → Option Value) (CE CS C1 C2 C4 C5 C6 : Addr) : Prop where
  gE : mg "ChangeError" = some (.ref CE)
  gS : mg "Stuck" = some (.ref CS)
  g1 : mg "NoText" = some (.ref C1)
  g2 : mg "NotRight" = some (.ref C2)
  g4 : mg "NoFit" = some (.ref C4)
  g5 : mg "NoLead" = some (.ref C5)
  g6 : mg "NotNow" = some (.ref C6)
  eS : PySem.W.exmOne K (.ref CS) (.ref CE) = some true
  xc : ExcC K CS
  xf : XfC K CS
  k1 : PySem.W.kitOne K (.ref CS) (.ref CS) = some true
  k5 : PySem.W.kitAny K (.ref CS) [.ref C4, .ref C5, .ref C6, .ref C2, .ref C1] = some false
section
variable {P : Program} {w : World} {K : PySem.W.Frag} {mg : Str → Option Value} {base : Heap} {CE CS C1 C2 C4 C5 C6 fI : Addr} {fdI : FuncData}
theorem c_lnumE (T : Tp mg) {f : Addr} {fd : FuncData} (D : Def K mg "_law_is_number" sLIsNumber f fd) (b : Binds K fd ["_law_value"] []) : CalE P w K mg base 1 "_law_is_number" fun _ => spLNum K := by
  refine calE0 D b scLIsNumber (fun p vs H Q E h => ?_) (fun cdv A outer s H vs Q E p hot hr h => ?_)
  · obtain ⟨v, d, rfl, _⟩ := h
    rfl
  · obtain ⟨v, d, rfl, hd, q⟩ := h
    refine ⟨_, (pss_one (ps_ret (pe_and (pe_callB call_isQ (by rfl) T.n_isinstance (by decide +kernel) (pa_cons (pv 0) (pa_cons (pe_bltn (v := .ty "int") (by rfl) T.n_int (by decide +kernel) rfl) pa_nil))) (pe_one (pe_not (pe_callB call_isQ (by rfl) T.n_isinstance (by decide +kernel) (pa_cons (pv 0) (pa_cons (pe_bltn (v := .ty "bool") (by rfl) T.n_bool (by decide +kernel) rfl) pa_nil)))))))), ?_⟩
    refine ⟨_, rfl, v, d, "int", rfl, hd, by decide, _, rfl, ?_⟩
    cases hd with
    | int i => exact iteT ⟨_, rfl, _, _, "bool", rfl, .int i, by decide, _, rfl, q⟩
    | bl bb => exact iteT ⟨_, rfl, _, _, "bool", rfl, .bl bb, by decide, _, rfl, q⟩
    | _ => exact iteF q
abbrev sLRefused : Stmt := topS 31
abbrev NLRefused : List Str := ["_law_program_here", "_law_name", "_law_values_here", "e"]
theorem scLRefused : FnScope NLRefused ["_law_program_here", "_law_name", "_law_values_here"] (fnScope sLRefused) := ⟨rfl, rfl, rfl, by decide +kernel, rfl, by decide +kernel, by decide +kernel⟩
def spRefused : Sp := fun vs H Q E => ∃ (a b d : Addr) (kvb : List (Key × V)) (bs : List (Str × PyData)) (m n : V) (ts : List (Str × Kd)) (g : Kd) (nm : Str) (va : Addr) (ys : List V) (ds : List PyData),
  vs = [.ref a, .str nm, .ref va] ∧ Prg H a b d kvb bs m n ts g ∧ H va = some (.tup ys) ∧ TdAll H ys ds ∧ vvs ds = true ∧ PyData.weightAll ds ≤ 200000 ∧ (∀ d ∈ ds, d.weight ≤ 100000) ∧
  (nm = "lost" ∨ ∃ pt tn, ((nm = "main" ∧ pt = m ∧ tn = ts) ∨ (nm = "m" ∧ pt = n ∧ tn = [])) ∧ okVals tn ds = false) ∧ ∀ H', Same H H' → Q (.bl true) H'
theorem c_refused (T : Tp mg) (Z : Ex K mg CE CS C1 C2 C4 C5 C6) (S : Sk K mg CS fI fdI) (c_PBegun : CalX P w K mg base 5 "begun" (spBegun CS)) (c_LIsNumber : CalE P w K mg base 1 "_law_is_number" fun _ => spLNum K)
    {f : Addr} {fd : FuncData} (D : Def K mg "_law_refused" sLRefused f fd) (b : Binds K fd ["_law_program_here", "_law_name", "_law_values_here"] []) : Cal P w K mg base 6 "_law_refused" spRefused [] := by
  refine cal0 D b .nil scLRefused (fun vs H Q E h => ?_) (fun cdv A outer s H vs Q E hr h => ?_)
  · obtain ⟨a, b, d, kvb, bs, m, n, ts, g, nm, va, ys, ds, rfl, _⟩ := h
    rfl
  · obtain ⟨a, b, d, kvb, bs, m, n, ts, g, nm, va, ys, ds, rfl, hP, hva, hys, hvs, hwt, hwd, hbad, q⟩ := h
    have nd := scLRefused.nd
    refine ⟨_, (pss_cons (L2N.ps_try_as (i := 3) (c := .ref CE) (Wout := fun _ _ _ _ => False) rfl rfl nd rfl rfl ⟨rfl, by decide, .inl Z.gE⟩ takes0N
      (fun W pn xe tk _ => pss_one (ps_expr (pe_cx c_PBegun tk hr (by decide) (by rfl) (by exact (pa_cons (pv 0) (pa_cons (pv 1) (pa_cons (pv 2) pa_nil)))))))
      (fun a oe cls d pn hz hf => pss_cons (ps_if (PW.pt (pw_or (pt_not (pt_val (pe_callB (call_isX Z.xc hz.zc hf) (by rfl) T.n_isinstance (by decide +kernel) (pa_cons (pv 3) (pa_cons (C8.pe_gc (v := .ref CS) (by rfl) ⟨_, Z.gS, rfl⟩) pa_nil)))))
          (pw_or1 (pt_val (pe_callB (call_isXs Z.xc hz.zc hf) (by rfl) T.n_isinstance (by decide +kernel) (pa_cons (pv 3) (pa_cons (pe_tup (pa_cons (C8.pe_gc (v := .ref C4) (by rfl) ⟨_, Z.g4, rfl⟩) (pa_cons (C8.pe_gc (v := .ref C5) (by rfl) ⟨_, Z.g5, rfl⟩) (pa_cons (C8.pe_gc (v := .ref C6) (by rfl) ⟨_, Z.g6, rfl⟩) (pa_cons (C8.pe_gc (v := .ref C2) (by rfl) ⟨_, Z.g2, rfl⟩) (pa_cons (C8.pe_gc (v := .ref C1) (by rfl) ⟨_, Z.g1, rfl⟩) pa_nil)))))) pa_nil)))))))
          (pss_one (ps_ret pe_bl)) pss_nil)
        (pss_one (ps_ret (pe_and (pe_cmpR op_eq (pe_xf Z.xf S.nn hz.zc hf (pv 3)) (pv 1) (nomark _)) (pe_and (pe_ce (j := 5) (k := 1) (q := (a, oe)) (sp := fun _ => spLNum K) c_LIsNumber (by exact ⟨rfl, by obtain ⟨vs, h1⟩ := hf; exact ⟨vs, h1, hz.2.2 vs h1⟩⟩) (by exact List.mem_cons_self) (by exact ⟨hr.dp, hr.un⟩) (by decide) (by rfl) (by exact (pa_cons (pe_xf Z.xf S.nr hz.zc hf (pv 3)) pa_nil))) (pe_one (pe_cmpR op_eq (pe_xf Z.xf S.nr hz.zc hf (pv 3)) (pe_un un_neg pe_int) (nomark _)))))))))
    (pss_one (ps_ret pe_bl))), ?_⟩
    refine (fun (caught : ∀ (dx : Addr) (H1 : Hp), Same H H1 → H1 dx = some (.xd [("row", .int (-1)), ("name", .str nm)]) → _) => ⟨_, rfl, _, rfl, _, rfl, a, b, d, kvb, bs, m, n, ts, g, nm, va, ys, ds, rfl, hP, hva, hys, hvs, hwt, hwd, hbad.elim (fun e => .inl ⟨e, fun dx H1 s1 _ hx => caught dx H1 s1 hx⟩) (fun ⟨pt, tn, hpt, hno⟩ => .inr ⟨pt, tn, hpt, fun _ dx H1 s1 _ hx => caught dx H1 s1 hx, fun hyes => by rw [hno] at hyes; cases hyes⟩)⟩) (fun dx H1 s1 hx => ?_)
    refine ⟨true, Z.eS, fun _ x9 hx9 => ?_, fun h => Bool.noConfusion h⟩
    refine ⟨_, rfl, .ref CS, _, true, dx, _, rfl, rfl, rfl, hx, .own _, Z.k1, _, rfl, iteF ?_⟩
    refine ⟨_, rfl, (by show 5 ≤ sizeLine; decide), fun t ht => ⟨t, [.ref C4, .ref C5, .ref C6, .ref C2, .ref C1], _, false, dx, _, rfl, rfl, rfl, Same.new ht _ _ hx, upd_same, .cons (.own _) (.cons (.own _) (.cons (.own _) (.cons (.own _) (.cons (.own _) .nil)))), Z.k5, _, rfl, iteF ?_⟩⟩
    have hx2 := Same.new (o := .tup [.ref C4, .ref C5, .ref C6, .ref C2, .ref C1]) ht _ _ hx
    have s2 := s1.trans (Same.new (o := .tup [.ref C4, .ref C5, .ref C6, .ref C2, .ref C1]) ht)
    refine ⟨_, rfl, rfl, rfl, dx, _, .str nm, rfl, hx2, rfl, _, rfl, rfl, _, rfl, iteT' (decide_eq_true rfl) ?_⟩
    refine ⟨_, rfl, rfl, rfl, dx, _, .int (-1), rfl, hx2, rfl, .int (-1), .int (-1), rfl, .int _, _, rfl, iteT ?_⟩
    refine ⟨_, rfl, rfl, rfl, dx, _, .int (-1), rfl, hx2, rfl, _, rfl, rfl, ?_⟩
    exact q _ s2
end
end K43
set_option Elab.async false
set_option linter.all false
set_option maxRecDepth 100000
set_option maxHeartbeats 2000000
namespace K43
open PySem PySem.Spec PyProof.Rows L2 KD L2H
open C8 (Cal Def cal0 pe_c fnBody fnScope fnArgs)
theorem same_but {p : Addr} {H H' : Hp} (hp : H p = none) (g : But p H H') : Same H H' := fun b o e => g b o (ne_some e hp) e
theorem Prg.on {H H' : Hp} {a b d : Addr} {kvb : List (Key × V)} {bs : List (Str × PyData)} {m n : V} {ts : List (Str × Kd)} {g : Kd} (s : Same H H') (h : Prg H a b d kvb bs m n ts g) : Prg H' a b d kvb bs m n ts g :=
  ⟨let ⟨kd, e⟩ := h.at_; ⟨kd, s _ _ e⟩, s _ _ h.b_, h.bx.mono (TupS.same s), h.bo, s _ _ h.d_, h.m_.mono (TupS.same s), h.n_.mono (TupS.same s), h.tk, h.g_⟩
theorem sqL_same {K : PySem.W.Frag} {a : Addr} {H H' : Hp} {xs : List V} (h : SqL K H a xs) (e : Same H H') : SqL K H' a xs := e.seq h
theorem okAll_wt {n m : Nat} {ds : List PyData} (h : OkAll n m ds) (hm : m ≤ 200000) : PyData.weightAll ds ≤ 200000 := Nat.le_trans h.wt hm
theorem b01 (c : Bool) : -(2 ^ 64) < (if c = true then (1 : Int) else 0) ∧ (if c = true then (1 : Int) else 0) < 2 ^ 64 := by cases c <;> decide
def six : List V := [.str "main", .str "main", .str "main", .str "main", .str "m", .str "lost"]
theorem six_at {r : Int} (h0 : 0 ≤ r) (h1 : r < 6) : ∃ nm : Str, atI six r = some (.str nm) ∧ (nm = "main" ∨ nm = "m" ∨ nm = "lost") := by
  have hc : r = 0 ∨ r = 1 ∨ r = 2 ∨ r = 3 ∨ r = 4 ∨ r = 5 := by omega
  rcases hc with rfl | rfl | rfl | rfl | rfl | rfl
  · exact ⟨_, atI_nat (j := 0) rfl, .inl rfl⟩
  · exact ⟨_, atI_nat (j := 1) rfl, .inl rfl⟩
  · exact ⟨_, atI_nat (j := 2) rfl, .inl rfl⟩
  · exact ⟨_, atI_nat (j := 3) rfl, .inl rfl⟩
  · exact ⟨_, atI_nat (j := 4) rfl, .inr (.inl rfl)⟩
  · exact ⟨_, atI_nat (j := 5) rfl, .inr (.inr rfl)⟩
/-- the part that a name means -/
def PartOf (nm : Str) (m n : V) (ts : List (Str × Kd)) (tn : List (Str × Kd)) : Prop := nm = "lost" ∨ ∃ pt, (nm = "main" ∧ pt = m ∧ tn = ts) ∨ (nm = "m" ∧ pt = n ∧ tn = [])
section
variable {P : Program} {w : World} {K : PySem.W.Frag} {mg : Str → Option Value} {base : Heap} {CE CS C1 C2 C4 C5 C6 fI : Addr} {fdI : FuncData}
abbrev sLaw : Stmt := topS 32
abbrev NLaw : List Str := ["_law_script", "_law_pot_here", "_law_program_here", "_law_k", "_law_other", "_law_name", "_law_takes", "_law_values_here", "_law_fit_here", "_law_one", "_law_again", "_law_take_here", "_law_kind_here", "_law_found"]
theorem scLaw : FnScope NLaw ["_law_script"] (fnScope sLaw) := ⟨rfl, rfl, rfl, by decide +kernel, rfl, by decide +kernel, by decide +kernel⟩
def spLaw (K : PySem.W.Frag) : Sp := fun vs H Q _ => ∃ (a : Addr) (ns : List Int), vs = [.ref a] ∧ SqL K H a (ns.map V.int) ∧ ns.length ≤ 63 ∧ ∀ H', Q (.bl true) H'
theorem f_law (T : Tp mg) (c_LNth : Cal P w K mg base 1 "_law_nth" (spNth K) []) (c_LPot : Cal P w K mg base 1 "_law_pot" spPot []) (c_LTake : Cal P w K mg base 1 "_law_take" spTake []) (c_LProgram : Cal P w K mg base 8 "_law_program" spProgram []) (c_LValues : Cal P w K mg base 7 "_law_values" spValues []) (c_LFit : Cal P w K mg base 6 "_law_fit" (spFit 4) [])
    (c_LRefused : Cal P w K mg base 6 "_law_refused" spRefused []) (c_LRight : Cal P w K mg base 8 "_law_right" spRight []) (c_PBegun : CalX P w K mg base 5 "begun" (spBegun CS))
    {f : Addr} {fd : FuncData} (D : Def K mg "law" sLaw f fd) : FnG P w K mg base C8.CX0 9 f fd ["_law_script"] (spLaw K) := by
  refine fnG0 D scLaw (fun vs H Q E h => ?_) (fun cdv A outer s H vs Q E hg hr h => ?_)
  · obtain ⟨a, ns, rfl, _⟩ := h
    rfl
  · obtain ⟨sA, ns, rfl, hS, hn, q⟩ := h
    have nd := scLaw.nd
    have line := sizeLine_eq
    have hu1 : (A.deeper (envOfC "law" (fnScope sLaw) s.heap.objs.size f cdv)).units + 1 < cLine := by have := hr.un; omega
    refine ⟨_, (pss_cons (ps_set (i := 1) nd rfl (.inl rfl) (pe_c c_LPot hr (by decide) (by rfl) (pa_cons (pe_c c_LNth hr (by decide) (by rfl) (pa_cons (pv 0) (pa_cons pe_int pa_nil))) pa_nil)))
    (pss_cons (ps_set (i := 2) nd rfl (.inl rfl) (pe_c c_LProgram hr (by decide) (by rfl) (pa_cons (pv 1) pa_nil)))
    (pss_cons (ps_for PassesOwn.never rfl (pi_range2 (by rfl) T.n_range (pa_cons pe_int (pa_cons (pe_callB (call_max2 rfl) (by rfl) T.n_max (by decide +kernel) (pa_cons pe_int (pa_cons (pe_callB (call_min2 rfl) (by rfl) T.n_min (by decide +kernel) (pa_cons pe_int (pa_cons (pe_callB call_len_seq (by rfl) T.n_len (by decide +kernel) (pa_cons (pv 0) pa_nil)) pa_nil))) pa_nil))) pa_nil))) (pg_name (i := 3) nd rfl (.inl rfl))
      (pss_cons (ps_set (i := 4) nd rfl (.inl rfl) (pe_c c_LPot hr (by decide) (by rfl) (pa_cons (pe_op op_add (pe_c c_LNth hr (by decide) (by rfl) (pa_cons (pv 0) (pa_cons (pv 3) pa_nil))) (pe_op op_mul (pv 3) (pe_callTy call_int1 (by rfl) T.n_int (by decide +kernel) (pa_cons (pe_cmpR op_lt (pe_callB call_abs (by rfl) T.n_abs (by decide +kernel) (pa_cons (pe_c c_LNth hr (by decide) (by rfl) (pa_cons (pv 0) (pa_cons (pv 3) pa_nil))) pa_nil)) (pe_op op_pow pe_int pe_int) (nomark _)) pa_nil)))) pa_nil)))
    (pss_cons (ps_set (i := 5) nd rfl (.inl rfl) (pe_ix ix_list (pe_lst (pa_cons pe_str (pa_cons pe_str (pa_cons pe_str (pa_cons pe_str (pa_cons pe_str (pa_cons pe_str pa_nil))))))) (pe_c c_LTake hr (by decide) (by rfl) (pa_cons (pv 4) (pa_cons pe_int pa_nil))) (fun _ _ => rfl)))
    (C8.pss_cut (ps_set (i := 6) nd rfl (.inl rfl) (pe_ix ix_tup (pe_dget2 hu1 (pe_ix ix_tup (pv 2) pe_int (fun _ _ => rfl)) (pv 5) (pe_tup (pa_cons (pe_tup pa_nil) (pa_cons (pe_tup pa_nil) (pa_cons (pe_tup pa_nil) pa_nil)))) ⟨rfl, rfl, rfl, rfl⟩) pe_int (fun _ _ => rfl)))
    (pss_cons (ps_set (i := 7) nd rfl (.inl rfl) (pe_c c_LValues hr (by decide) (by rfl) (pa_cons (pv 4) (pa_cons (pv 6) pa_nil))))
    (pss_cons (ps_set (i := 8) nd rfl (.inl rfl) (pe_cmpR op_eq (pe_callB call_len_seq (by rfl) T.n_len (by decide +kernel) (pa_cons (pv 7) pa_nil)) (pe_callB call_len_seq (by rfl) T.n_len (by decide +kernel) (pa_cons (pv 6) pa_nil)) (nomark _)))
    (pss_cons (ps_for PassesOwn.never rfl (RZ.pi_zipA (by rfl) T.n_zip (pa_cons (pv 6) (pa_cons (pv 7) pa_nil))) (pg_tup rfl (pgs_cons (pg_tup rfl (pgs_cons (pg_name (i := 11) nd rfl (.inl rfl)) (pgs_cons (pg_name (i := 12) nd rfl (.inl rfl)) pgs_nil))) (pgs_cons (pg_name (i := 9) nd rfl (.inl rfl)) pgs_nil)))
      (pss_one (ps_set (i := 8) nd rfl (.inl rfl) (pe_and (pv 8) (pe_one (pe_c c_LFit hr (by decide) (by rfl) (pa_cons (pv 12) (pa_cons (pv 9) pa_nil))))))))
    (pss_one (ps_if (PW.pt (pw_or (pt_cmpR op_eq (pv 5) pe_str (nomark _)) (pw_or1 (pt_not (pt_val (pv 8))))))
      (pss_one (ps_if (pt_not (pt_val (pe_c c_LRefused hr (by decide) (by rfl) (pa_cons (pv 2) (pa_cons (pv 5) (pa_cons (pv 7) pa_nil))))))
      (pss_one (ps_ret pe_bl))
      pss_nil))
      (pss_one (ps_for PassesOwn.never rfl (pi_range1 (by rfl) T.n_range (pa_cons pe_int pa_nil)) (pg_name (i := 10) nd rfl (.inl rfl))
      (pss_cons (ps_set (i := 13) nd rfl (.inl rfl) (pe_cx (W := fun _ _ _ _ => False) c_PBegun takes0N hr (by decide) (by rfl) (pa_cons (pv 2) (pa_cons (pv 5) (pa_cons (pv 7) pa_nil)))))
    (pss_cons (ps_if (pt_not (pt_val (pe_c c_LRight hr (by decide) (by rfl) (pa_cons (pv 13) (pa_cons (pv 2) (pa_cons (pv 5) (pa_cons (pv 7) pa_nil)))))))
      (pss_one (ps_ret pe_bl))
      pss_nil)
    (pss_cons (ps_expr (pe_dclear (pe_ix ix_tup (pv 13) pe_int (fun _ _ => rfl))))
    (pss_cons (ps_dput hu1 (pe_ix ix_tup (pv 13) pe_int (fun _ _ => rfl)) pe_str (pe_tup (pa_cons pe_str (pa_cons (pe_tup (pa_cons (pe_tup (pa_cons pe_str (pa_cons pe_int pa_nil))) pa_nil)) pa_nil))) rfl)
    (pss_one (ps_expr (pe_dclear (pe_ix ix_tup (pe_ix ix_tup (pe_ix ix_tup (pv 13) pe_int (fun _ _ => rfl)) pe_int (fun _ _ => rfl)) pe_int (fun _ _ => rfl))))))))))))))))))))
    (pss_one (ps_ret pe_bl))))), ?_⟩
    refine ⟨_, rfl, sA, ns, 0, rfl, hS, fun c0 => ⟨c0, rfl, fun p Hp1 hp sp1 P1 => ?_⟩⟩
    refine ⟨_, rfl, p, rfl, P1, fun a b d kvb bs m n ts g Hp2 nbp ndp hP gP nb nd' => ?_⟩
    have sP : Same H Hp2 := fun c o e => gP.1 c o (ne_some e hp) (sp1 _ _ e)
    have hS2 := sqL_same hS sP
    clear gP nb nd' nbp ndp
    refine ⟨_, rfl, sA, _, rfl, .inl hS2, _, _, rfl, _, _, rfl, 1, _, rfl, ⟨by decide, by decide, ?_, ?_⟩, ?_⟩
    · split <;> (try split) <;> omega
    · rw [List.length_map]
      split <;> (try split) <;> omega
    refine for_range (lo := 1) (fun i σ H' => (∃ o3 o4 o5 o6 o7 o8 o9 o10 o11 o12 o13, σ = [some (.ref sA), some (.ref p), some (.ref a), o3, o4, o5, o6, o7, o8, o9, o10, o11, o12, o13]) ∧ Same Hp2 H') ⟨⟨_, _, _, _, _, _, _, _, _, _, _, rfl⟩, Same.refl _⟩ (fun i σ H' hi hW => ?_) (fun σ H' hW => q H')
    obtain ⟨⟨o3, o4, o5, o6, o7, o8, o9, o10, o11, o12, o13, rfl⟩, sH⟩ := hW
    have hS' := sqL_same hS2 sH
    have hP' := hP.on sH
    have ek : ∀ x : V, [x, V.int (1 + (i : Int))] = [x, V.int ((1 + i : Nat) : Int)] := fun x => by rw [show ((1 + i : Nat) : Int) = 1 + (i : Int) by omega]
    refine ⟨_, rfl, _, rfl, sA, ns, 1 + i, ek _, hS', fun c1 => ⟨_, rfl, _, rfl, _, rfl, sA, ns, 1 + i, ek _, hS', fun c2 => ⟨_, rfl, _, _, rfl, rfl, (by show (0 : Int) ≤ 18 ∧ _; decide), _, _, rfl, rfl, .inr ⟨_, rfl, _, _, rfl, rfl, .inr (b01 _), _, _, rfl, rfl, _, rfl, fun p2 H1 hp2 s1 P2 => ?_⟩⟩⟩⟩
    have hp2' := hp2
    refine ⟨by show 6 ≤ sizeLine; omega, fun l hl => ?_⟩
    have g1 : Go p2 H1 (upd H1 l (.lst six)) := (Go.refl P2).new hl
    have nl := (Go.refl P2).ne hl
    refine ⟨_, rfl, p2, 6, rfl, g1.2, by decide, by decide, fun r H2 r0 r1 g2 => ?_⟩
    obtain ⟨nm, hnm, hnc⟩ := six_at r0 r1
    refine ⟨l, six, r, .str nm, rfl, rfl, SqL.of (g2.at nl upd_same), hnm, ?_⟩
    have s2 : Same H' H2 := fun c o e => g2.1 c o (ne_some e hp2) (g1.1 c o (ne_some e hp2) (s1 _ _ e))
    have hP2 := hP'.on s2
    have P3 : Pt H2 p2 := g2.2
    clear g1 g2
    refine ⟨fun σ H3 => ∃ tv tn, σ = [some (.ref sA), some (.ref p), some (.ref a), some (.int (1 + (i : Int))), some (.ref p2), some (.str nm), some tv, o7, o8, o9, o10, o11, o12, o13] ∧ Td H3 tv (.tuple (tn.map takeD)) ∧ KOk 10 tn ∧ PartOf nm m n ts tn ∧ Same H2 H3, ?_, ?_⟩
    · obtain ⟨kd, hat⟩ := hP2.at_
      have sz : ∀ n : Nat, n ≤ 10 → n ≤ sizeLine := fun n hn => by omega
      refine ⟨_, rfl, a, _, 2, .ref d, rfl, rfl, SqT.of hat, atI_nat (j := 2) rfl, d, rfl, .inl ⟨_, .inl hP2.d_⟩, _, rfl, sz _ (by simp), fun e1 h1 => ⟨sz _ (by simp), fun e2 h2 => ⟨sz _ (by simp), fun e3 h3 => ⟨sz _ (by simp), fun e4 h4 => ?_⟩⟩⟩⟩
      have s3 := (((Same.new (o := .tup []) h1).trans (Same.new (o := .tup []) h2)).trans (Same.new (o := .tup []) h3)).trans (Same.new (o := .tup [.ref e1, .ref e2, .ref e3]) h4)
      have he1 := ((Same.new (o := .tup []) h2).trans (Same.new (o := .tup []) h3)).trans (Same.new (o := .tup [.ref e1, .ref e2, .ref e3]) h4) _ _ upd_same
      have he4 : (upd (upd (upd (upd H2 e1 (.tup [])) e2 (.tup [])) e3 (.tup [])) e4 (.tup [.ref e1, .ref e2, .ref e3])) e4 = _ := upd_same
      generalize upd (upd (upd (upd H2 e1 (.tup [])) e2 (.tup [])) e3 (.tup [])) e4 (.tup [.ref e1, .ref e2, .ref e3]) = H3 at *
      have hP3 := hP2.on s3
      have knil : KOk 10 ([] : List (Str × Kd)) := ⟨List.nodup_nil, (fun _ h => nomatch h), (fun _ h => nomatch h), Nat.zero_le _⟩
      refine ⟨_, DGet.k (k := Sum.inr nm) hP3.d_, ?_⟩
      rcases hnc with rfl | rfl | rfl
      · obtain ⟨pa, tv, gv, rv, rfl, hpa, htv⟩ := part_at hP3.m_
        exact ⟨pa, _, 0, tv, rfl, rfl, SqT.of hpa, atI_nat (j := 0) rfl, tv, ts, rfl, htv, hP3.tk, .inr ⟨.ref pa, .inl ⟨rfl, rfl, rfl⟩⟩, s3⟩
      · obtain ⟨pa, tv, gv, rv, rfl, hpa, htv⟩ := part_at hP3.n_
        exact ⟨pa, _, 0, tv, rfl, rfl, SqT.of hpa, atI_nat (j := 0) rfl, tv, [], rfl, htv, knil, .inr ⟨.ref pa, .inr ⟨rfl, rfl, rfl⟩⟩, s3⟩
      · exact ⟨e4, _, 0, .ref e1, rfl, rfl, SqT.of he4, atI_nat (j := 0) rfl, .ref e1, [], rfl, .tup he1 .nil, knil, .inl rfl, s3⟩
    rintro σ H3 ⟨tv, tn, rfl, htv, htn, hpo, s3⟩
    have hP3 := hP2.on s3
    refine ⟨_, rfl, _, rfl, p2, tv, tn, rfl, P3.same s3, htv, htn, fun va ds H4 Tva vds lds okds g4 => ?_⟩
    have s4 : Same H' H4 := fun c o e => g4.1 c o (ne_some e hp2') (s3 _ _ (s2 _ _ e))
    have hP4 := hP'.on s4
    have htv4 := htv.mono (g4.tups (P3.same s3))
    clear s2 s3 hP2 hP3 htv g4 P3 P2
    obtain ⟨_, ys, ev, hva, hys⟩ := tup_at Tva
    cases ev
    obtain ⟨ta, txs, rfl, hta, htx⟩ := tup_at htv4
    have htl := htx.len
    rw [List.length_map] at htl
    have hyl := hys.len
    have wds : PyData.weightAll ds ≤ 200000 := Nat.le_trans okds.wt (by decide)
    have wd : ∀ d ∈ ds, d.weight ≤ 100000 := fun d hd => Nat.le_trans (weight_mem hd) okds.wt
    refine ⟨_, rfl, va, _, rfl, .inr (SqT.of hva), _, rfl, ta, _, rfl, .inr (SqT.of hta), rfl, ?_⟩
    have efit : decide (V.int (ys.length : Nat) = V.int (txs.length : Nat)) = decide (ds.length = tn.length) := by
      rw [dec_vint, hyl, htl, Bool.eq_iff_iff, decide_eq_true_eq, decide_eq_true_eq]
      omega
    rw [efit]
    refine ⟨_, rfl, _, rfl, ta, va, txs, ys, rfl, .inr ⟨SqT.of hta, SqT.of hva, ?_⟩⟩
    have hzl : (tn.zip ds).length = min txs.length ys.length := by rw [List.length_zip, htl, hyl]
    refine for_it (walk_zipT (K := K) (a := ta) (b := va) (xs := txs) (ys := ys) (n := (tn.zip ds).length) hzl) (fun j σ H5 => ∃ o9 o11 o12, σ = [some (.ref sA), some (.ref p), some (.ref a), some (.int (1 + (i : Int))), some (.ref p2), some (.str nm), some (.ref ta), some (.ref va), some (.bl (decide (ds.length = tn.length) && ((tn.zip ds).take j).all fun q => isK q.1.2 q.2)), o9, o10, o11, o12, o13] ∧ Same H4 H5)
      ⟨o9, o11, o12, by rw [List.take_zero, List.all_nil, Bool.and_true]; rfl, Same.refl _⟩ (fun j σ H5 _ hW => ?_) (fun j x σ H5 H6 hj hW hY => ?_) (fun σ H5 hW => ?_)
    · obtain ⟨_, _, _, _, sm⟩ := hW
      exact ⟨SqT.of (sm _ _ hta), SqT.of (sm _ _ hva)⟩
    · obtain ⟨q9, q11, q12, rfl, sm⟩ := hW
      obtain ⟨T9, x9, y9, rfl, hT9, rfl, hx9, hy9⟩ := hY
      have hx9 : txs[j]? = some x9 := hx9
      have hy9 : ys[j]? = some y9 := hy9
      obtain ⟨d9, hd9, td9⟩ := tdAll_at htx hx9
      obtain ⟨a9, ha9, rfl⟩ := take_get hd9
      obtain ⟨e9, he9, teq⟩ := tdAll_at hys hy9
      obtain ⟨t9, kv9, rfl, ht9, tk9⟩ := take_at td9
      have sT := sm.trans (Same.new (o := .tup [.ref t9, y9]) hT9)
      have hmem := List.mem_of_getElem? he9
      have hz : (tn.zip ds)[j]? = some (a9, e9) := List.getElem?_zip_eq_some.mpr ⟨ha9, he9⟩
      have hok9 := htn.ok _ (List.mem_of_getElem? ha9)
      have enew : ∀ c : Bool, (c && ((tn.zip ds).take (j + 1)).all fun q => isK q.1.2 q.2) = ((c && ((tn.zip ds).take j).all fun q => isK q.1.2 q.2) && isK a9.2 e9) := fun c => by
        rw [take_succ hz, List.all_append]
        simp [Bool.and_assoc]
      refine ⟨T9, _, rfl, SqT.of upd_same, rfl, _, _, rfl, ⟨t9, _, rfl, SqT.of (sT _ _ ht9), rfl, _, _, rfl, _, _, rfl, rfl, _, _, rfl, rfl, ?_⟩⟩
      refine ⟨_, rfl, _, rfl, ?_⟩
      cases hc : (decide (ds.length = tn.length) && ((tn.zip ds).take j).all fun q => isK q.1.2 q.2) with
      | false => exact iteF ⟨_, _, _, by rw [enew, hc, Bool.false_and]; rfl, sT⟩
      | true => exact iteT ⟨_, rfl, _, rfl, kv9, y9, a9.2, e9, rfl, tk9.mono (TupS.same sT), teq.mono (TupS.same sT), vv_mem vds hmem, wd _ hmem, by omega, fun H7 s7 => ⟨_, _, _, by rw [enew, hc, Bool.true_and]; rfl, sT.trans s7⟩⟩
    · obtain ⟨q9, q11, q12, rfl, sm⟩ := hW
      rw [List.take_of_length_le (Nat.le_refl _)]
      have eok : (decide (ds.length = tn.length) && (tn.zip ds).all fun q => isK q.1.2 q.2) = okVals tn ds := rfl
      rw [eok]
      have hP5 := hP4.on sm
      have hva5 := sm _ _ hva
      have hys5 := hys.mono (TupS.same sm)
      have s5 := s4.trans sm
      have fin : ∀ {H6 : Hp}, Same Hp2 H6 → ∀ {x3 x4 x5 x6 x7 x8 x9 x10 x11 x12 x13 : Option V}, (∃ o3 o4 o5 o6 o7 o8 o9 o10 o11 o12 o13, [some (V.ref sA), some (.ref p), some (.ref a), x3, x4, x5, x6, x7, x8, x9, x10, x11, x12, x13] = [some (.ref sA), some (.ref p), some (.ref a), o3, o4, o5, o6, o7, o8, o9, o10, o11, o12, o13]) ∧ Same Hp2 H6 := fun s6 => ⟨⟨_, _, _, _, _, _, _, _, _, _, _, rfl⟩, s6⟩
      have sHp := sH.trans s5
      rcases hpo with rfl | ⟨pt, hpt⟩
      · refine ⟨_, rfl, rfl, _, rfl, iteT' (decide_eq_true rfl) ?_⟩
        exact ⟨_, rfl, _, rfl, _, rfl, a, b, d, kvb, bs, m, n, ts, g, "lost", va, ys, ds, rfl, hP5, hva5, hys5, vds, wds, wd, .inl rfl, fun H6 s6 => ⟨_, rfl, iteF (fin (sHp.trans s6))⟩⟩
      · have hnl : decide (V.str nm = V.str "lost") = false := by
          rcases hpt with ⟨rfl, _⟩ | ⟨rfl, _⟩ <;> decide +kernel
        refine ⟨_, rfl, rfl, _, rfl, iteF' hnl ⟨_, rfl, _, rfl, ?_⟩⟩
        cases hok : okVals tn ds with
        | false =>
          refine iteT ?_
          exact ⟨_, rfl, _, rfl, _, rfl, a, b, d, kvb, bs, m, n, ts, g, nm, va, ys, ds, rfl, hP5, hva5, hys5, vds, wds, wd, .inr ⟨pt, tn, hpt, hok⟩, fun H6 s6 => ⟨_, rfl, iteF (fin (sHp.trans s6))⟩⟩
        | true =>
          refine iteF ⟨2, rfl, by decide, by decide, ?_⟩
          have hlen : tn.length = ys.length := by
            have h2 := of_decide_eq_true (Bool.and_eq_true_iff.mp hok).1
            omega
          refine for_range (lo := 0) (n := 2) (fun j σ H6 => (∃ o9 o10 o11 o12 o13, σ = [some (.ref sA), some (.ref p), some (.ref a), some (.int (1 + (i : Int))), some (.ref p2), some (.str nm), some (.ref ta), some (.ref va), some (.bl true), o9, o10, o11, o12, o13]) ∧ Same H5 H6)
            ⟨⟨_, _, _, _, _, rfl⟩, Same.refl _⟩ (fun j σ H6 hj hW => ?_) (fun σ H6 hW => ?_)
          · obtain ⟨⟨r9, r10, r11, r12, r13, rfl⟩, s6⟩ := hW
            have hP6 := hP5.on s6
            have hva6 := s6 _ _ hva5
            have hys6 := hys5.mono (TupS.same s6)
            refine ⟨_, rfl, _, rfl, _, rfl, a, b, d, kvb, bs, m, n, ts, g, nm, va, ys, ds, rfl, hP6, hva6, hys6, vds, wds, wd, .inr ⟨pt, tn, hpt, (fun h => by rw [hok] at h; cases h), fun _ r bd rd hd H7 hF s7 => ?_⟩⟩
            have nbb : bd ≠ b := fun z => by have h1 := hF.nb; rw [z, hP6.b_] at h1; cases h1
            refine ⟨_, rfl, _, rfl, _, rfl, _, rfl, H6, r, a, b, d, kvb, bs, m, n, pt, ts, tn, g, nm, va, ys, ds, bd, rd, hd, rfl, hP6.on s7, s7 _ _ hva6, hys6.mono (TupS.same s7), vds, okds.mono (Nat.le_refl _) (by decide), wd, hlen, hpt, hF, nbb, fun H8 s8 => ⟨_, rfl, iteF ?_⟩⟩
            obtain ⟨ft, wt, fr, hrt, hft, hwt, hfr⟩ := hF.at_
            obtain ⟨kvd, hbd, _⟩ := hF.bd_
            have hbd8 := s8 _ _ hbd
            have hrd8 := s8 _ _ hF.rd_
            have hhd8 := s8 _ _ hF.hd_
            refine ⟨_, rfl, r, _, 0, .ref bd, rfl, rfl, SqT.of (s8 _ _ hrt), atI_nat (j := 0) rfl, .inr (.inr (.inl ⟨rfl, .inl ⟨kvd, hbd8⟩⟩)), bd, kvd, rfl, rfl, hbd8, ?_⟩
            have U9 : TupS H7 (upd H8 bd (.dK [])) := (TupS.same s8).trans (TupS.dput hbd8)
            have hrd9 : (upd H8 bd (.dK [])) rd = some (.dK []) := by rw [upd_ne hF.br.symm]; exact hrd8
            have hhd9 : (upd H8 bd (.dK [])) hd = some (.dK (zipK (tn.map (·.1)) ys)) := (by rw [upd_ne hF.bh.symm]; exact hhd8)
            have s9 : Same H6 (upd H8 bd (.dK [])) := fun c o e => by
              rw [upd_ne (ne_some e hF.nb)]
              exact s8 _ _ (s7 _ _ e)
            generalize upd H8 bd (.dK []) = H9 at *
            refine ⟨(by show 2 ≤ sizeLine; omega), fun u1 h1 => ⟨(by show 1 ≤ sizeLine; omega), fun u2 h2 => ⟨(by show 2 ≤ sizeLine; omega), fun u3 h3 => ?_⟩⟩⟩
            have sN := ((Same.new (o := .tup [.str "a", .int 1]) h1).trans (Same.new (o := .tup [.ref u1]) h2)).trans (Same.new (o := .tup [.str "k", .ref u2]) h3)
            have U10 := U9.trans (TupS.same sN)
            have hrd10 := sN _ _ hrd9
            have hhd10 := sN _ _ hhd9
            have s10 := s9.trans sN
            generalize upd (upd (upd H9 u1 (.tup [.str "a", .int 1])) u2 (.tup [.ref u1])) u3 (.tup [.str "k", .ref u2]) = H10 at *
            refine ⟨_, rfl, r, _, 1, .ref rd, rfl, rfl, SqT.of (U10 _ _ hrt), atI_nat (j := 1) rfl, rd, _, rfl, DPut.k (k := Sum.inr "r0") hrd10 (by show 0 < sizeLine; omega), ?_⟩
            have U11 := U10.trans (TupS.dput (o := .dK (putK [] (Sum.inr "r0") (.ref u3))) hrd10)
            have hhd11 : (upd H10 rd (.dK (putK [] (Sum.inr "r0") (.ref u3)))) hd = some (.dK (zipK (tn.map (·.1)) ys)) := (by rw [upd_ne hF.rh.symm]; exact hhd10)
            have s11 : Same H6 (upd H10 rd (.dK (putK [] (Sum.inr "r0") (.ref u3)))) := fun c o e => by
              rw [upd_ne (ne_some e hF.nr)]
              exact s10 _ _ e
            generalize upd H10 rd (.dK (putK [] (Sum.inr "r0") (.ref u3))) = H11 at *
            refine ⟨_, rfl, r, _, 2, .ref ft, rfl, rfl, SqT.of (U11 _ _ hrt), atI_nat (j := 2) rfl, ft, _, 0, .ref fr, rfl, rfl, SqT.of (U11 _ _ hft), atI_nat (j := 0) rfl, fr, _, 3, .ref hd, rfl, rfl, SqT.of (U11 _ _ hfr), atI_nat (j := 3) rfl, .inr (.inr (.inl ⟨rfl, .inl ⟨_, hhd11⟩⟩)), hd, _, rfl, rfl, hhd11, ?_⟩
            refine ⟨⟨_, _, _, _, _, rfl⟩, fun c o e => ?_⟩
            have e6 := s6 _ _ e
            rw [upd_ne (ne_some e6 hF.nh)]
            exact s11 _ _ e6
          · obtain ⟨⟨r9, r10, r11, r12, r13, rfl⟩, s6⟩ := hW
            exact fin (sHp.trans s6)
end
end K43
set_option Elab.async false
set_option linter.all false
set_option maxRecDepth 100000
set_option maxHeartbeats 8000000
namespace K43
open PySem PySem.Spec PyProof.Rows L2
open C8 (Cal Def cal0 pe_c fnBody fnScope fnArgs)
/-- a def of the module's top -/
theorem def_mk {K : PySem.W.Frag} {h : Heap} {mg : Str → Option Value} (X : K.In h) (G : h.Ns mainGlobals mg) {x : Str} {st : Stmt} {f : Addr} {oc : Value} {od an : Option Addr} {osl : Array (Option Value)} {kV doc pm cdv ct : Value}
    (a : PySem.W.nsIn K mainGlobals x = some (some (.ref f)))
    (l : K.lookup f = some ⟨oc, od, .func (PySem.W.fnOf x x (fnArgs st) (fnBody st) (fnScope st) .none kV doc pm an cdv ct), osl⟩)
    (c : PySem.W.codeIn K cdv x = true) (k : PySem.W.keepIn K (.ref f) = true) : Def K mg x st f (PySem.W.fnOf x x (fnArgs st) (fnBody st) (fnScope st) .none kV doc pm an cdv ct) :=
  ⟨⟨⟨oc, od, .none, kV, doc, pm, an, cdv, ct, osl, rfl, l, c⟩⟩, PySem.W.mg_of X G a, k⟩
theorem all_mk {l : PySem.W.OpenLaw} {w : World} {K : PySem.W.Frag} {h : Heap} {mg : Str → Option Value} {fa CE CS C1 C2 C4 C5 C6 fI : Addr} {nmS qS : Str} {NS : Addr} {bsS : List Value} {snS : List Str} {subS : List Value} {abS : Bool} {colS : Option Bool} {ddS : Option Addr} {m0 m1 m2 m3 m5 : Option Value} {odI anI : Option Addr} {slI : Array (Option Value)} {ocI kVI dcI pmI cdI ctI : Value} (X : K.In h) (G : h.Ns mainGlobals mg) (hfa : mg "law" = some (.ref fa))
    {f1 : Addr} {od1 an1 : Option Addr} {sl1 : Array (Option Value)} {oc1 kV1 dc1 pm1 cd1 ct1 : Value}
    {f2 : Addr} {od2 an2 : Option Addr} {sl2 : Array (Option Value)} {oc2 kV2 dc2 pm2 cd2 ct2 : Value}
    {f3 : Addr} {od3 an3 : Option Addr} {sl3 : Array (Option Value)} {oc3 kV3 dc3 pm3 cd3 ct3 : Value}
    {f4 : Addr} {od4 an4 : Option Addr} {sl4 : Array (Option Value)} {oc4 kV4 dc4 pm4 cd4 ct4 : Value}
    {f5 : Addr} {od5 an5 : Option Addr} {sl5 : Array (Option Value)} {oc5 kV5 dc5 pm5 cd5 ct5 : Value}
    {f6 : Addr} {od6 an6 : Option Addr} {sl6 : Array (Option Value)} {oc6 kV6 dc6 pm6 cd6 ct6 : Value}
    {f7 : Addr} {od7 an7 : Option Addr} {sl7 : Array (Option Value)} {oc7 kV7 dc7 pm7 cd7 ct7 : Value}
    {f8 : Addr} {od8 an8 : Option Addr} {sl8 : Array (Option Value)} {oc8 kV8 dc8 pm8 cd8 ct8 : Value}
    {f9 : Addr} {od9 an9 : Option Addr} {sl9 : Array (Option Value)} {oc9 kV9 dc9 pm9 cd9 ct9 : Value}
    {f10 : Addr} {od10 an10 : Option Addr} {sl10 : Array (Option Value)} {oc10 kV10 dc10 pm10 cd10 ct10 : Value}
    {f11 : Addr} {od11 an11 : Option Addr} {sl11 : Array (Option Value)} {oc11 kV11 dc11 pm11 cd11 ct11 : Value}
    {f12 : Addr} {od12 an12 : Option Addr} {sl12 : Array (Option Value)} {oc12 kV12 dc12 pm12 cd12 ct12 : Value}
    {f13 : Addr} {od13 an13 : Option Addr} {sl13 : Array (Option Value)} {oc13 kV13 dc13 pm13 cd13 ct13 : Value}
    {f14 : Addr} {od14 an14 : Option Addr} {sl14 : Array (Option Value)} {oc14 kV14 dc14 pm14 cd14 ct14 : Value}
    {f15 : Addr} {od15 an15 : Option Addr} {sl15 : Array (Option Value)} {oc15 kV15 dc15 pm15 cd15 ct15 : Value}
    {f16 : Addr} {od16 an16 : Option Addr} {sl16 : Array (Option Value)} {oc16 kV16 dc16 pm16 cd16 ct16 : Value}
    {f17 : Addr} {od17 an17 : Option Addr} {sl17 : Array (Option Value)} {oc17 kV17 dc17 pm17 cd17 ct17 : Value}
    {f18 : Addr} {od18 an18 : Option Addr} {sl18 : Array (Option Value)} {oc18 kV18 dc18 pm18 cd18 ct18 : Value}
    {f19 : Addr} {od19 an19 : Option Addr} {sl19 : Array (Option Value)} {oc19 kV19 dc19 pm19 cd19 ct19 : Value}
    {f20 : Addr} {od20 an20 : Option Addr} {sl20 : Array (Option Value)} {oc20 kV20 dc20 pm20 cd20 ct20 : Value}
    {u_NUMBERS : Value}
    (a1 : PySem.W.nsIn K mainGlobals "is_number" = some (some (.ref f1))) (l1 : K.lookup f1 = some ⟨oc1, od1, .func (PySem.W.fnOf "is_number" "is_number" (fnArgs sPIsNumber) (fnBody sPIsNumber) (fnScope sPIsNumber) .none kV1 dc1 pm1 an1 cd1 ct1), sl1⟩) (c1 : PySem.W.codeIn K cd1 "is_number" = true) (k1 : PySem.W.keepIn K (.ref f1) = true)
    (a2 : PySem.W.nsIn K mainGlobals "is_of" = some (some (.ref f2))) (l2 : K.lookup f2 = some ⟨oc2, od2, .func (PySem.W.fnOf "is_of" "is_of" (fnArgs sPIsOf) (fnBody sPIsOf) (fnScope sPIsOf) .none kV2 dc2 pm2 an2 cd2 ct2), sl2⟩) (c2 : PySem.W.codeIn K cd2 "is_of" = true) (k2 : PySem.W.keepIn K (.ref f2) = true)
    (a3 : PySem.W.nsIn K mainGlobals "_is_of_bare" = some (some (.ref f3))) (l3 : K.lookup f3 = some ⟨oc3, od3, .func (PySem.W.fnOf "_is_of_bare" "_is_of_bare" (fnArgs sPIsOfBare) (fnBody sPIsOfBare) (fnScope sPIsOfBare) .none kV3 dc3 pm3 an3 cd3 ct3), sl3⟩) (c3 : PySem.W.codeIn K cd3 "_is_of_bare" = true) (k3 : PySem.W.keepIn K (.ref f3) = true)
    (a4 : PySem.W.nsIn K mainGlobals "frame_at_first" = some (some (.ref f4))) (l4 : K.lookup f4 = some ⟨oc4, od4, .func (PySem.W.fnOf "frame_at_first" "frame_at_first" (fnArgs sPFrameAtFirst) (fnBody sPFrameAtFirst) (fnScope sPFrameAtFirst) .none kV4 dc4 pm4 an4 cd4 ct4), sl4⟩) (c4 : PySem.W.codeIn K cd4 "frame_at_first" = true) (k4 : PySem.W.keepIn K (.ref f4) = true)
    (a5 : PySem.W.nsIn K mainGlobals "begun" = some (some (.ref f5))) (l5 : K.lookup f5 = some ⟨oc5, od5, .func (PySem.W.fnOf "begun" "begun" (fnArgs sPBegun) (fnBody sPBegun) (fnScope sPBegun) .none kV5 dc5 pm5 an5 cd5 ct5), sl5⟩) (c5 : PySem.W.codeIn K cd5 "begun" = true) (k5 : PySem.W.keepIn K (.ref f5) = true)
    (a6 : PySem.W.nsIn K mainGlobals "_are_for_takes" = some (some (.ref f6))) (l6 : K.lookup f6 = some ⟨oc6, od6, .func (PySem.W.fnOf "_are_for_takes" "_are_for_takes" (fnArgs sPAreForTakes) (fnBody sPAreForTakes) (fnScope sPAreForTakes) .none kV6 dc6 pm6 an6 cd6 ct6), sl6⟩) (c6 : PySem.W.codeIn K cd6 "_are_for_takes" = true) (k6 : PySem.W.keepIn K (.ref f6) = true)
    (a7 : PySem.W.nsIn K mainGlobals "_law_nth" = some (some (.ref f7))) (l7 : K.lookup f7 = some ⟨oc7, od7, .func (PySem.W.fnOf "_law_nth" "_law_nth" (fnArgs sLNth) (fnBody sLNth) (fnScope sLNth) .none kV7 dc7 pm7 an7 cd7 ct7), sl7⟩) (c7 : PySem.W.codeIn K cd7 "_law_nth" = true) (k7 : PySem.W.keepIn K (.ref f7) = true)
    (a8 : PySem.W.nsIn K mainGlobals "_law_pot" = some (some (.ref f8))) (l8 : K.lookup f8 = some ⟨oc8, od8, .func (PySem.W.fnOf "_law_pot" "_law_pot" (fnArgs sLPot) (fnBody sLPot) (fnScope sLPot) .none kV8 dc8 pm8 an8 cd8 ct8), sl8⟩) (c8 : PySem.W.codeIn K cd8 "_law_pot" = true) (k8 : PySem.W.keepIn K (.ref f8) = true)
    (a9 : PySem.W.nsIn K mainGlobals "_law_take" = some (some (.ref f9))) (l9 : K.lookup f9 = some ⟨oc9, od9, .func (PySem.W.fnOf "_law_take" "_law_take" (fnArgs sLTake) (fnBody sLTake) (fnScope sLTake) .none kV9 dc9 pm9 an9 cd9 ct9), sl9⟩) (c9 : PySem.W.codeIn K cd9 "_law_take" = true) (k9 : PySem.W.keepIn K (.ref f9) = true)
    (a10 : PySem.W.nsIn K mainGlobals "_law_is_number" = some (some (.ref f10))) (l10 : K.lookup f10 = some ⟨oc10, od10, .func (PySem.W.fnOf "_law_is_number" "_law_is_number" (fnArgs sLIsNumber) (fnBody sLIsNumber) (fnScope sLIsNumber) .none kV10 dc10 pm10 an10 cd10 ct10), sl10⟩) (c10 : PySem.W.codeIn K cd10 "_law_is_number" = true) (k10 : PySem.W.keepIn K (.ref f10) = true)
    (a11 : PySem.W.nsIn K mainGlobals "_law_kind" = some (some (.ref f11))) (l11 : K.lookup f11 = some ⟨oc11, od11, .func (PySem.W.fnOf "_law_kind" "_law_kind" (fnArgs sLKind) (fnBody sLKind) (fnScope sLKind) .none kV11 dc11 pm11 an11 cd11 ct11), sl11⟩) (c11 : PySem.W.codeIn K cd11 "_law_kind" = true) (k11 : PySem.W.keepIn K (.ref f11) = true)
    (a12 : PySem.W.nsIn K mainGlobals "_law_plain" = some (some (.ref f12))) (l12 : K.lookup f12 = some ⟨oc12, od12, .func (PySem.W.fnOf "_law_plain" "_law_plain" (fnArgs sLPlain) (fnBody sLPlain) (fnScope sLPlain) .none kV12 dc12 pm12 an12 cd12 ct12), sl12⟩) (c12 : PySem.W.codeIn K cd12 "_law_plain" = true) (k12 : PySem.W.keepIn K (.ref f12) = true)
    (a13 : PySem.W.nsIn K mainGlobals "_law_fit" = some (some (.ref f13))) (l13 : K.lookup f13 = some ⟨oc13, od13, .func (PySem.W.fnOf "_law_fit" "_law_fit" (fnArgs sLFit) (fnBody sLFit) (fnScope sLFit) .none kV13 dc13 pm13 an13 cd13 ct13), sl13⟩) (c13 : PySem.W.codeIn K cd13 "_law_fit" = true) (k13 : PySem.W.keepIn K (.ref f13) = true)
    (a14 : PySem.W.nsIn K mainGlobals "_law_same" = some (some (.ref f14))) (l14 : K.lookup f14 = some ⟨oc14, od14, .func (PySem.W.fnOf "_law_same" "_law_same" (fnArgs sLSame) (fnBody sLSame) (fnScope sLSame) .none kV14 dc14 pm14 an14 cd14 ct14), sl14⟩) (c14 : PySem.W.codeIn K cd14 "_law_same" = true) (k14 : PySem.W.keepIn K (.ref f14) = true)
    (a15 : PySem.W.nsIn K mainGlobals "_law_things" = some (some (.ref f15))) (l15 : K.lookup f15 = some ⟨oc15, od15, .func (PySem.W.fnOf "_law_things" "_law_things" (fnArgs sLThings) (fnBody sLThings) (fnScope sLThings) .none kV15 dc15 pm15 an15 cd15 ct15), sl15⟩) (c15 : PySem.W.codeIn K cd15 "_law_things" = true) (k15 : PySem.W.keepIn K (.ref f15) = true)
    (a16 : PySem.W.nsIn K mainGlobals "_law_program" = some (some (.ref f16))) (l16 : K.lookup f16 = some ⟨oc16, od16, .func (PySem.W.fnOf "_law_program" "_law_program" (fnArgs sLProgram) (fnBody sLProgram) (fnScope sLProgram) .none kV16 dc16 pm16 an16 cd16 ct16), sl16⟩) (c16 : PySem.W.codeIn K cd16 "_law_program" = true) (k16 : PySem.W.keepIn K (.ref f16) = true)
    (a17 : PySem.W.nsIn K mainGlobals "_law_values" = some (some (.ref f17))) (l17 : K.lookup f17 = some ⟨oc17, od17, .func (PySem.W.fnOf "_law_values" "_law_values" (fnArgs sLValues) (fnBody sLValues) (fnScope sLValues) .none kV17 dc17 pm17 an17 cd17 ct17), sl17⟩) (c17 : PySem.W.codeIn K cd17 "_law_values" = true) (k17 : PySem.W.keepIn K (.ref f17) = true)
    (a18 : PySem.W.nsIn K mainGlobals "_law_right" = some (some (.ref f18))) (l18 : K.lookup f18 = some ⟨oc18, od18, .func (PySem.W.fnOf "_law_right" "_law_right" (fnArgs sLRight) (fnBody sLRight) (fnScope sLRight) .none kV18 dc18 pm18 an18 cd18 ct18), sl18⟩) (c18 : PySem.W.codeIn K cd18 "_law_right" = true) (k18 : PySem.W.keepIn K (.ref f18) = true)
    (a19 : PySem.W.nsIn K mainGlobals "_law_refused" = some (some (.ref f19))) (l19 : K.lookup f19 = some ⟨oc19, od19, .func (PySem.W.fnOf "_law_refused" "_law_refused" (fnArgs sLRefused) (fnBody sLRefused) (fnScope sLRefused) .none kV19 dc19 pm19 an19 cd19 ct19), sl19⟩) (c19 : PySem.W.codeIn K cd19 "_law_refused" = true) (k19 : PySem.W.keepIn K (.ref f19) = true)
    (a20 : PySem.W.nsIn K mainGlobals "law" = some (some (.ref f20))) (l20 : K.lookup f20 = some ⟨oc20, od20, .func (PySem.W.fnOf "law" "law" (fnArgs sLaw) (fnBody sLaw) (fnScope sLaw) .none kV20 dc20 pm20 an20 cd20 ct20), sl20⟩) (c20 : PySem.W.codeIn K cd20 "law" = true) (k20 : PySem.W.keepIn K (.ref f20) = true)
    (z_isinstance : PySem.W.nsIn K mainGlobals "isinstance" = some none)
    (z_int : PySem.W.nsIn K mainGlobals "int" = some none)
    (z_bool : PySem.W.nsIn K mainGlobals "bool" = some none)
    (z_str : PySem.W.nsIn K mainGlobals "str" = some none)
    (z_tuple : PySem.W.nsIn K mainGlobals "tuple" = some none)
    (z_list : PySem.W.nsIn K mainGlobals "list" = some none)
    (z_dict : PySem.W.nsIn K mainGlobals "dict" = some none)
    (z_len : PySem.W.nsIn K mainGlobals "len" = some none)
    (z_range : PySem.W.nsIn K mainGlobals "range" = some none)
    (z_max : PySem.W.nsIn K mainGlobals "max" = some none)
    (z_min : PySem.W.nsIn K mainGlobals "min" = some none)
    (z_abs : PySem.W.nsIn K mainGlobals "abs" = some none)
    (z_all : PySem.W.nsIn K mainGlobals "all" = some none)
    (z_zip : PySem.W.nsIn K mainGlobals "zip" = some none)
    (z_sorted : PySem.W.nsIn K mainGlobals "sorted" = some none)
    (g_NUMBERS : PySem.W.nsIn K mainGlobals "NUMBERS" = some (some u_NUMBERS)) (r_NUMBERS : RelV (.int 1000000000000) u_NUMBERS)
    (gE : PySem.W.nsIn K mainGlobals "ChangeError" = some (some (.ref CE)))
    (gS : PySem.W.nsIn K mainGlobals "Stuck" = some (some (.ref CS)))
    (g1 : PySem.W.nsIn K mainGlobals "NoText" = some (some (.ref C1)))
    (g2 : PySem.W.nsIn K mainGlobals "NotRight" = some (some (.ref C2)))
    (g4 : PySem.W.nsIn K mainGlobals "NoFit" = some (some (.ref C4)))
    (g5 : PySem.W.nsIn K mainGlobals "NoLead" = some (some (.ref C5)))
    (g6 : PySem.W.nsIn K mainGlobals "NotNow" = some (some (.ref C6)))
    (xL : K.lookup CS = some (excClassObj nmS qS CS NS bsS [.ref CE, .type "ValueError", .type "Exception", .type "BaseException", .type "object"] true snS subS abS colS ddS m0 m1 m2 m3 m5 "ValueError.__new__"))
    (sa : PySem.W.findIn K (.ref CS) "__setattr__" = some (some (.builtin "object.__setattr__")))
    (bS : PySem.W.subIn K (.ref CS) (.type "BaseException") = some true)
    (tS : PySem.W.typeIn K (.ref CS) = some (.type "type"))
    (kS : PySem.W.keepIn K (.ref CS) = true)
    (iS : PySem.W.findIn K (.ref CS) "__init__" = some (some (.ref fI)))
    (yS : PySem.W.typeIn K (.ref fI) = some (.type "function"))
    (nnS : PySem.W.findIn K (.ref CS) "name" = some none)
    (nrS : PySem.W.findIn K (.ref CS) "row" = some none)
    (lI : K.lookup fI = some ⟨ocI, odI, .func (PySem.W.fnOf "__init__" "Stuck.__init__" (fnArgs sInit) (fnBody sInit) (fnScope sInit) .none kVI dcI pmI anI cdI ctI), slI⟩)
    (cI : PySem.W.codeIn K cdI "Stuck.__init__" = true)
    (bE : PySem.W.subIn K (.ref CE) (.type "BaseException") = some true)
    (dE : PySem.W.hasDictIn K CE = true)
    (tE : PySem.W.typeIn K (.ref CE) = some (.type "type"))
    (sE : PySem.W.subIn K (.ref CS) (.ref CE) = some true)
    (xg : PySem.W.findIn K (.ref CS) "__getattribute__" = some (some (.builtin "BaseException.__getattribute__")))
    (xk : PySem.W.findIn K (.ref CS) "__getattr__" = some none)
    (xd : PySem.W.hasDictIn K CS = true)
    (xa : PySem.W.findIn K (.ref CS) "__class__" = some (some (.builtin "object.__class__")))
    (xn : PySem.W.specialIn K (.builtin "object.__class__") "__get__" = some (some (.builtin "getset_descriptor.__get__")))
    (xt : PySem.W.takesIn K (.builtin "object.__class__") = some true)
    (xm : PySem.W.mroIn K CS (.type "object") = some true)
    (q1 : PySem.W.kitOne K (.ref CS) (.ref CS) = some true)
    (q5 : PySem.W.kitAny K (.ref CS) [.ref C4, .ref C5, .ref C6, .ref C2, .ref C1] = some false)
    : ∃ fd : FuncData, (∀ (s : Shared) (v : Value), BindsTo s fd ⟨[v], []⟩ [("_law_script", v)]) ∧ ∀ base : Heap, K.In base → base.Ns mainGlobals mg → FnG l.prog w K mg base C8.CX0 9 fa fd ["_law_script"] (spLaw K) := by
  have e := hfa.symm.trans (PySem.W.mg_of X G a20)
  cases e
  have D_is_number := def_mk (st := sPIsNumber) X G a1 l1 c1 k1
  have D_is_of := def_mk (st := sPIsOf) X G a2 l2 c2 k2
  have D__is_of_bare := def_mk (st := sPIsOfBare) X G a3 l3 c3 k3
  have D_frame_at_first := def_mk (st := sPFrameAtFirst) X G a4 l4 c4 k4
  have D_begun := def_mk (st := sPBegun) X G a5 l5 c5 k5
  have D__are_for_takes := def_mk (st := sPAreForTakes) X G a6 l6 c6 k6
  have D__law_nth := def_mk (st := sLNth) X G a7 l7 c7 k7
  have D__law_pot := def_mk (st := sLPot) X G a8 l8 c8 k8
  have D__law_take := def_mk (st := sLTake) X G a9 l9 c9 k9
  have D__law_is_number := def_mk (st := sLIsNumber) X G a10 l10 c10 k10
  have D__law_kind := def_mk (st := sLKind) X G a11 l11 c11 k11
  have D__law_plain := def_mk (st := sLPlain) X G a12 l12 c12 k12
  have D__law_fit := def_mk (st := sLFit) X G a13 l13 c13 k13
  have D__law_same := def_mk (st := sLSame) X G a14 l14 c14 k14
  have D__law_things := def_mk (st := sLThings) X G a15 l15 c15 k15
  have D__law_program := def_mk (st := sLProgram) X G a16 l16 c16 k16
  have D__law_values := def_mk (st := sLValues) X G a17 l17 c17 k17
  have D__law_right := def_mk (st := sLRight) X G a18 l18 c18 k18
  have D__law_refused := def_mk (st := sLRefused) X G a19 l19 c19 k19
  have D_law := def_mk (st := sLaw) X G a20 l20 c20 k20
  have b_is_number := D_is_number.fn.binds rfl (ps := ["thing"]) fun _ _ _ _ _ _ us hl => match us, hl with | [_], _ => rfl
  have b_is_of := D_is_of.fn.binds rfl (ps := ["kind", "value", "records"]) fun _ _ _ _ _ _ us hl => match us, hl with | [_, _, _], _ => rfl
  have b__is_of_bare := D__is_of_bare.fn.binds rfl (ps := ["kind", "value", "records"]) fun _ _ _ _ _ _ us hl => match us, hl with | [_, _, _], _ => rfl
  have b_frame_at_first := D_frame_at_first.fn.binds rfl (ps := ["name", "part", "values"]) fun _ _ _ _ _ _ us hl => match us, hl with | [_, _, _], _ => rfl
  have b_begun := D_begun.fn.binds rfl (ps := ["program", "name", "values"]) fun _ _ _ _ _ _ us hl => match us, hl with | [_, _, _], _ => rfl
  have b__are_for_takes := D__are_for_takes.fn.binds rfl (ps := ["takes", "values"]) fun _ _ _ _ _ _ us hl => match us, hl with | [_, _], _ => rfl
  have b__law_nth := D__law_nth.fn.binds rfl (ps := ["_law_script", "_law_k"]) fun _ _ _ _ _ _ us hl => match us, hl with | [_, _], _ => rfl
  have b__law_pot := D__law_pot.fn.binds rfl (ps := ["_law_cell"]) fun _ _ _ _ _ _ us hl => match us, hl with | [_], _ => rfl
  have b__law_take := D__law_take.fn.binds rfl (ps := ["_law_pot_here", "_law_many"]) fun _ _ _ _ _ _ us hl => match us, hl with | [_, _], _ => rfl
  have b__law_is_number := D__law_is_number.fn.binds rfl (ps := ["_law_value"]) fun _ _ _ _ _ _ us hl => match us, hl with | [_], _ => rfl
  have b__law_kind := D__law_kind.fn.binds rfl (ps := ["_law_pot_here", "_law_deep"]) fun _ _ _ _ _ _ us hl => match us, hl with | [_, _], _ => rfl
  have b__law_plain := D__law_plain.fn.binds rfl (ps := ["_law_pot_here", "_law_kind_here"]) fun _ _ _ _ _ _ us hl => match us, hl with | [_, _], _ => rfl
  have b__law_fit := D__law_fit.fn.binds rfl (ps := ["_law_kind_here", "_law_value"]) fun _ _ _ _ _ _ us hl => match us, hl with | [_, _], _ => rfl
  have b__law_same := D__law_same.fn.binds rfl (ps := ["_law_one", "_law_other"]) fun _ _ _ _ _ _ us hl => match us, hl with | [_, _], _ => rfl
  have b__law_things := D__law_things.fn.binds rfl (ps := ["_law_pot_here", "_law_letters"]) fun _ _ _ _ _ _ us hl => match us, hl with | [_, _], _ => rfl
  have b__law_program := D__law_program.fn.binds rfl (ps := ["_law_pot_here"]) fun _ _ _ _ _ _ us hl => match us, hl with | [_], _ => rfl
  have b__law_values := D__law_values.fn.binds rfl (ps := ["_law_pot_here", "_law_takes"]) fun _ _ _ _ _ _ us hl => match us, hl with | [_, _], _ => rfl
  have b__law_right := D__law_right.fn.binds rfl (ps := ["_law_found", "_law_program_here", "_law_name", "_law_values_here"]) fun _ _ _ _ _ _ us hl => match us, hl with | [_, _, _, _], _ => rfl
  have b__law_refused := D__law_refused.fn.binds rfl (ps := ["_law_program_here", "_law_name", "_law_values_here"]) fun _ _ _ _ _ _ us hl => match us, hl with | [_, _, _], _ => rfl
  have T : Tp mg := ⟨PySem.W.mg_none_of X G z_isinstance, PySem.W.mg_none_of X G z_int, PySem.W.mg_none_of X G z_bool, PySem.W.mg_none_of X G z_str, PySem.W.mg_none_of X G z_tuple, PySem.W.mg_none_of X G z_list, PySem.W.mg_none_of X G z_dict, PySem.W.mg_none_of X G z_len, PySem.W.mg_none_of X G z_range, PySem.W.mg_none_of X G z_max, PySem.W.mg_none_of X G z_min, PySem.W.mg_none_of X G z_abs, PySem.W.mg_none_of X G z_all, PySem.W.mg_none_of X G z_zip, PySem.W.mg_none_of X G z_sorted, ⟨u_NUMBERS, PySem.W.mg_of X G g_NUMBERS, r_NUMBERS⟩⟩
  refine ⟨PySem.W.fnOf "law" "law" (fnArgs sLaw) (fnBody sLaw) (fnScope sLaw) .none kV20 dc20 pm20 an20 cd20 ct20, fun s v => .of_eq rfl, fun base _ _ => ?_⟩
  have S : Sk K mg CS fI _ := ⟨⟨⟨nmS, qS, NS, bsS, _, snS, subS, abS, colS, ddS, m0, m1, m2, m3, m5, xL, rfl⟩, sa, bS, tS, kS⟩, iS, yS, nnS, nrS, PySem.W.mg_of X G gS, ⟨_, _, _, _, _, _, _, _, _, _, rfl, lI, cI⟩, fun s us _ hl => match us, hl with | [_, _, _], _ => .of_eq rfl⟩
  have Z : Ex K mg CE CS C1 C2 C4 C5 C6 := ⟨PySem.W.mg_of X G gE, PySem.W.mg_of X G gS, PySem.W.mg_of X G g1, PySem.W.mg_of X G g2, PySem.W.mg_of X G g4, PySem.W.mg_of X G g5, PySem.W.mg_of X G g6, PySem.W.exm_ref bE dE tE sE, ⟨xg, xk, bS, xd, xa, xn, xt, xm⟩, ⟨xg, xk, bS, xd⟩, q1, q5⟩
  have cTake := c_take (P := l.prog) (w := w) (base := base) D__law_take b__law_take
  have cPot := c_pot (P := l.prog) (w := w) (base := base) T D__law_pot b__law_pot
  have cNth := c_nth (P := l.prog) (w := w) (base := base) T D__law_nth b__law_nth
  have cLNum := c_lnum (P := l.prog) (w := w) (base := base) T D__law_is_number b__law_is_number
  have cKind := c_kind T cTake D__law_kind b__law_kind 4
  have cPlain := c_plain T cTake D__law_plain b__law_plain 4
  have cFit := c_fit T cLNum D__law_fit b__law_fit 4
  have cSame := c_same (P := l.prog) (w := w) (base := base) T D__law_same b__law_same 6 (by decide)
  have cThings := c_things T cTake cKind D__law_things b__law_things
  have cProgram := c_program T cPlain cKind cThings D__law_program b__law_program
  have cValues := c_values T cTake cPlain cKind D__law_values b__law_values
  have pNumber := c_isNumber (P := l.prog) (w := w) (base := base) T D_is_number b_is_number
  have pBare := c_isOfBare T pNumber D__is_of_bare b__is_of_bare
  have pIsOf := c_isOf T pBare D_is_of b_is_of
  have pFor := c_for T pIsOf D__are_for_takes b__are_for_takes
  have pFrame := c_frame (P := l.prog) (w := w) (base := base) T D_frame_at_first b_frame_at_first
  have pBegun := c_begun T S pFor pFrame D_begun b_begun
  have cRefused := c_refused T Z S pBegun (c_lnumE T D__law_is_number b__law_is_number) D__law_refused b__law_refused
  have cRight := c_right T cSame D__law_right b__law_right
  exact f_law T cNth cPot cTake cProgram cValues cFit cRefused cRight pBegun D_law
end K43
open PySem PySem.W PyProof.Rows
set_option maxHeartbeats 0 in
theorem PySem.Challenge.cw_changewhile_k43_runs_begun_holds : PySem.Challenge.rw_changewhile_k43_runs_begun.Holds := by
  w_on; o_law; k_head; (case hw => w_witness2)
  k_fill
  refine L2.walkG (l := PySem.Challenge.rw_changewhile_k43_runs_begun) (n := 63) (k := 9) (x := "_law_script") (sp := K43.spLaw) rfl (by decide) rfl ⟨rfl, by decide, by decide⟩ (fun w h Y => PySem.W.kIn_of Y) ?F (fun K H a ns hl _ hS => ⟨a, ns, rfl, hS, hl, fun _ => rfl⟩)
  case F =>
    intro w mg fa h KX G hmg
    refine' K43.all_mk KX G hmg ?a1 ?l1 ?c1 ?k1 ?a2 ?l2 ?c2 ?k2 ?a3 ?l3 ?c3 ?k3 ?a4 ?l4 ?c4 ?k4 ?a5 ?l5 ?c5 ?k5 ?a6 ?l6 ?c6 ?k6 ?a7 ?l7 ?c7 ?k7 ?a8 ?l8 ?c8 ?k8 ?a9 ?l9 ?c9 ?k9 ?a10 ?l10 ?c10 ?k10 ?a11 ?l11 ?c11 ?k11 ?a12 ?l12 ?c12 ?k12 ?a13 ?l13 ?c13 ?k13 ?a14 ?l14 ?c14 ?k14 ?a15 ?l15 ?c15 ?k15 ?a16 ?l16 ?c16 ?k16 ?a17 ?l17 ?c17 ?k17 ?a18 ?l18 ?c18 ?k18 ?a19 ?l19 ?c19 ?k19 ?a20 ?l20 ?c20 ?k20 ?z_isinstance ?z_int ?z_bool ?z_str ?z_tuple ?z_list ?z_dict ?z_len ?z_range ?z_max ?z_min ?z_abs ?z_all ?z_zip ?z_sorted ?g_NUMBERS ?r_NUMBERS ?gE ?gS ?g1 ?g2 ?g4 ?g5 ?g6 ?xL ?sa ?bS ?tS ?kS ?iS ?yS ?nnS ?nrS ?lI ?cI ?bE ?dE ?tE ?sE ?xg ?xk ?xd ?xa ?xn ?xt ?xm ?q1 ?q5
    (case a1 => k_is); (case l1 => k_is); (case c1 => k_is); (case k1 => k_is); (case a2 => k_is); (case l2 => k_is); (case c2 => k_is); (case k2 => k_is); (case a3 => k_is); (case l3 => k_is); (case c3 => k_is); (case k3 => k_is); (case a4 => k_is); (case l4 => k_is); (case c4 => k_is); (case k4 => k_is); (case a5 => k_is); (case l5 => k_is); (case c5 => k_is); (case k5 => k_is); (case a6 => k_is); (case l6 => k_is); (case c6 => k_is); (case k6 => k_is); (case a7 => k_is); (case l7 => k_is); (case c7 => k_is); (case k7 => k_is); (case a8 => k_is); (case l8 => k_is); (case c8 => k_is); (case k8 => k_is); (case a9 => k_is); (case l9 => k_is); (case c9 => k_is); (case k9 => k_is); (case a10 => k_is); (case l10 => k_is); (case c10 => k_is); (case k10 => k_is); (case a11 => k_is); (case l11 => k_is); (case c11 => k_is); (case k11 => k_is); (case a12 => k_is); (case l12 => k_is); (case c12 => k_is); (case k12 => k_is); (case a13 => k_is); (case l13 => k_is); (case c13 => k_is); (case k13 => k_is); (case a14 => k_is); (case l14 => k_is); (case c14 => k_is); (case k14 => k_is); (case a15 => k_is); (case l15 => k_is); (case c15 => k_is); (case k15 => k_is); (case a16 => k_is); (case l16 => k_is); (case c16 => k_is); (case k16 => k_is); (case a17 => k_is); (case l17 => k_is); (case c17 => k_is); (case k17 => k_is); (case a18 => k_is); (case l18 => k_is); (case c18 => k_is); (case k18 => k_is); (case a19 => k_is); (case l19 => k_is); (case c19 => k_is); (case k19 => k_is); (case a20 => k_is); (case l20 => k_is); (case c20 => k_is); (case k20 => k_is); (case z_isinstance => k_is); (case z_int => k_is); (case z_bool => k_is); (case z_str => k_is); (case z_tuple => k_is); (case z_list => k_is); (case z_dict => k_is); (case z_len => k_is); (case z_range => k_is); (case z_max => k_is); (case z_min => k_is); (case z_abs => k_is); (case z_all => k_is); (case z_zip => k_is); (case z_sorted => k_is); (case g_NUMBERS => k_is)
    (case r_NUMBERS => exact ⟨_, rfl⟩)
    (case gE => k_is)
    (case gS => k_is)
    (case g1 => k_is)
    (case g2 => k_is)
    (case g4 => k_is)
    (case g5 => k_is)
    (case g6 => k_is)
    (case xL => k_is)
    (case sa => k_is)
    (case bS => k_is)
    (case tS => k_is)
    (case kS => k_is)
    (case iS => k_is)
    (case yS => k_is)
    (case nnS => k_is)
    (case nrS => k_is)
    (case lI => k_is)
    (case cI => k_is)
    (case bE => k_is)
    (case dE => k_is)
    (case tE => k_is)
    (case sE => k_is)
    (case xg => k_is)
    (case xk => k_is)
    (case xd => k_is)
    (case xa => k_is)
    (case xn => k_is)
    (case xt => k_is)
    (case xm => k_is)
    (case q1 => kit_is)
    (case q5 => kit_is)
