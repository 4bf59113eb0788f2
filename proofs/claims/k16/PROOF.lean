import PyProof.Rows.All
import Wide.All
import OpenK.AllK
import Wide.FinOn
import HandS.ForMost
import HandS.Codes
import HandS.Wide
import HandS.Deep
import HandS.IsInst
import HandS.TupAny
import HandS.StrMore
import HandS.Style
import HandS.ExcOwn
import HandS.More
import PySem.Challenge.RW_changewhile_k16_terms_told
import HandS.TupMul
set_option Elab.async false
set_option linter.all false
set_option maxRecDepth 100000
set_option maxHeartbeats 4000000
namespace L2
open PySem PySem.Spec PyProof.Rows
open C8 (Cal Def cal0 pe_c fnBody fnScope fnArgs)

/-! ### heaps: all but one list stays -/
def But (p : Addr) (H H' : Hp) : Prop := ∀ b o, b ≠ p → H b = some o → H' b = some o
theorem But.refl (p : Addr) (H : Hp) : But p H H := fun _ _ _ h => h
theorem But.trans {p : Addr} {H H1 H2 : Hp} (a : But p H H1) (b : But p H1 H2) : But p H H2 := fun c o n h => b c o n (a c o n h)
theorem But.same {p : Addr} {H H1 : Hp} (a : Same H H1) : But p H H1 := fun b o _ h => a b o h
theorem Same.new {q : Addr} {H : Hp} {o : HO} (h : H q = none) : Same H (upd H q o) := fun b u e => by
  rw [upd_ne (ne_of_none e h)]
  exact e
theorem But.new {p q : Addr} {H : Hp} {o : HO} (h : H q = none) : But p H (upd H q o) := But.same (Same.new h)
theorem But.pot {p : Addr} {H H' : Hp} {o : HO} (e : But p H H') : But p H (upd H' p o) := fun b u n h => by
  rw [upd_ne n]
  exact e b u n h
def hid (p : Addr) (H : Hp) : Hp := fun b => if b = p then none else H b
theorem hid_ne {p b : Addr} {H : Hp} (h : b ≠ p) : hid p H b = H b := if_neg h
theorem hid_some {p b : Addr} {H : Hp} {o : HO} (h : hid p H b = some o) : b ≠ p ∧ H b = some o := by
  unfold hid at h
  by_cases e : b = p
  · rw [if_pos e] at h; cases h
  · rw [if_neg e] at h; exact ⟨e, h⟩
theorem hid_but {p : Addr} {H H' : Hp} (e : But p H H') : Same (hid p H) (hid p H') := fun b o h => by
  obtain ⟨n, h⟩ := hid_some h
  rw [hid_ne n]
  exact e b o n h
theorem hid_in {p : Addr} {H : Hp} : Same (hid p H) H := fun b o h => (hid_some h).2

/-! ### data -/
section
variable {K : PySem.W.Frag}
theorem sqT_mono {H H' : Hp} {a : Addr} {xs : List V} (e : Same H H') (h : SqT K H a xs) : SqT K H' a xs := by
  rcases h with (h | ⟨o, h⟩) | h
  · exact .inl (.inl (e _ _ h))
  · exact .inl (.inr ⟨o, e _ _ h⟩)
  · exact .inr h
mutual
theorem Dp.mono {H H' : Hp} (e : Same H H') : ∀ {v : V} {d : PyData}, Dp K H v d → Dp K H' v d
  | _, _, .non => .non
  | _, _, .bl b => .bl b
  | _, _, .int i => .int i
  | _, _, .str x => .str x
  | _, _, .lst h a => .lst (e.seq h) (DpAll.mono e a)
  | _, _, .tup h a => .tup (sqT_mono e h) (DpAll.mono e a)
theorem DpAll.mono {H H' : Hp} (e : Same H H') : ∀ {vs : List V} {ds : List PyData}, DpAll K H vs ds → DpAll K H' vs ds
  | _, _, .nil => .nil
  | _, _, .cons h t => .cons (Dp.mono e h) (DpAll.mono e t)
end
theorem DpAll.len {H : Hp} : ∀ {vs : List V} {ds : List PyData}, DpAll K H vs ds → vs.length = ds.length
  | _, _, .nil => rfl
  | _, _, .cons _ t => congrArg (· + 1) (DpAll.len t)
theorem DpAll.app {H : Hp} : ∀ {vs ws : List V} {ds es : List PyData}, DpAll K H vs ds → DpAll K H ws es → DpAll K H (vs ++ ws) (ds ++ es)
  | _, _, _, _, .nil, t => t
  | _, _, _, _, .cons h s, t => .cons h (DpAll.app s t)
theorem DpAll.get {H : Hp} : ∀ {vs : List V} {ds : List PyData} {i : Nat} {d : PyData}, DpAll K H vs ds → ds[i]? = some d → ∃ v, vs[i]? = some v ∧ Dp K H v d
  | _, _, _, _, .nil, h => by simp at h
  | _, _, 0, _, .cons h _, e => by
    simp at e
    subst e
    exact ⟨_, rfl, h⟩
  | _, _, i + 1, _, .cons _ t, e => by
    obtain ⟨v, h1, h2⟩ := DpAll.get t (i := i) (by simpa using e)
    exact ⟨v, by simpa using h1, h2⟩
/-- data that does not come by the pot -/
abbrev Dh (K : PySem.W.Frag) (p : Addr) (H : Hp) (v : V) (d : PyData) : Prop := Dp K (hid p H) v d
abbrev DhAll (K : PySem.W.Frag) (p : Addr) (H : Hp) (vs : List V) (ds : List PyData) : Prop := DpAll K (hid p H) vs ds
theorem Dp.un {p : Addr} {H : Hp} {v : V} {d : PyData} (h : Dh K p H v d) : Dp K H v d := Dp.mono hid_in h
theorem Dp.but {p : Addr} {H H' : Hp} {v : V} {d : PyData} (e : But p H H') (h : Dh K p H v d) : Dh K p H' v d := Dp.mono (hid_but e) h
theorem DpAll.but {p : Addr} {H H' : Hp} {vs : List V} {ds : List PyData} (e : But p H H') (h : DhAll K p H vs ds) : DhAll K p H' vs ds := DpAll.mono (hid_but e) h
/-- a new tuple, a new list -/
theorem Dp.newT {p q : Addr} {H : Hp} {xs : List V} {ds : List PyData} (hq : H q = none) (n : q ≠ p) (h : DhAll K p H xs ds) : Dh K p (upd H q (.tup xs)) (.ref q) (.tuple ds) :=
  .tup (.inl (.inl (by rw [hid_ne n, upd_same]))) (DpAll.but (But.new hq) h)
theorem Dp.newL {p q : Addr} {H : Hp} {xs : List V} {ds : List PyData} (hq : H q = none) (n : q ≠ p) (h : DhAll K p H xs ds) : Dh K p (upd H q (.lst xs)) (.ref q) (.list ds) :=
  .lst (.inl (.inl (by rw [hid_ne n, upd_same]))) (DpAll.but (But.new hq) h)
theorem Dp.newT0 {q : Addr} {H : Hp} {xs : List V} {ds : List PyData} (hq : H q = none) (h : DpAll K H xs ds) : Dp K (upd H q (.tup xs)) (.ref q) (.tuple ds) :=
  .tup (.inl (.inl upd_same)) (DpAll.mono (Same.new hq) h)
theorem Dp.newL0 {q : Addr} {H : Hp} {xs : List V} {ds : List PyData} (hq : H q = none) (h : DpAll K H xs ds) : Dp K (upd H q (.lst xs)) (.ref q) (.list ds) :=
  .lst (.inl (.inl upd_same)) (DpAll.mono (Same.new hq) h)

/-! ### isinstance of data -/
def tyN : PyData → String
  | .none => "NoneType" | .bool _ => "bool" | .int _ => "int" | .str _ => "str" | .list _ => "list" | .tuple _ => "tuple" | .dict _ => "dict"
theorem Dp.ty {H : Hp} {v : V} {d : PyData} (h : Dp K H v d) : TyX K H v (.type (tyN d)) := by
  cases h with
  | non => exact .base .non
  | bl b => exact .base (.bl b)
  | int i => exact .base (.int i)
  | str x => exact .base (.str x)
  | lst hs _ =>
    rcases hs with (h | ⟨o, h⟩) | ⟨o, its, n, h, hc, _⟩
    · exact .base (.lst h)
    · exact .base (.frz h)
    · exact .kList h hc
  | tup hs _ =>
    rcases hs with (h | ⟨o, h⟩) | ⟨o, its, n, h, hc, _⟩
    · exact .base (.tup h)
    · exact .fTuple h
    · exact .kTuple h hc
def isS : PyData → Bool | .str _ => true | _ => false
def isT : PyData → Bool | .tuple _ => true | _ => false
def isL : PyData → Bool | .list _ => true | _ => false
def isB : PyData → Bool | .bool _ => true | _ => false
def isI : PyData → Bool | .bool _ => true | .int _ => true | _ => false
def isOf : String → PyData → Bool
  | "str", d => isS d
  | "tuple", d => isT d
  | "list", d => isL d
  | "bool", d => isB d
  | "int", d => isI d
  | _, _ => false
def tabN (a T : String) : Bool := a == T || (a == "bool" && T == "int")
theorem kitN : (["NoneType", "bool", "int", "str", "list", "tuple"].all fun a => ["str", "tuple", "list", "bool", "int"].all fun T => kitB a T == some (tabN a T)) = true := by decide +kernel
theorem kit_all {a T : String} (ha : a ∈ ["NoneType", "bool", "int", "str", "list", "tuple"]) (hT : T ∈ ["str", "tuple", "list", "bool", "int"]) : kitB a T = some (tabN a T) := by
  have h := List.all_eq_true.mp (List.all_eq_true.mp kitN a ha) T hT
  exact eq_of_beq h
theorem Dp.nodict {H : Hp} {v : V} {d : PyData} (h : Dp K H v d) : tyN d ≠ "dict" := by cases h <;> (intro e; exact absurd e (by simp [tyN]))
theorem isOf_tab {T : String} (hT : T ∈ ["str", "tuple", "list", "bool", "int"]) (d : PyData) : isOf T d = tabN (tyN d) T := by
  simp only [List.mem_cons, List.not_mem_nil, or_false] at hT
  rcases hT with rfl | rfl | rfl | rfl | rfl <;> cases d <;> first | rfl | decide
theorem isOf_kit {H : Hp} {v : V} {d : PyData} {T : String} (h : Dp K H v d) (hT : T ∈ ["str", "tuple", "list", "bool", "int"]) : kitB (tyN d) T = some (isOf T d) := by
  have n := h.nodict
  rw [isOf_tab hT]
  refine kit_all ?_ hT
  cases d <;> first | exact absurd rfl n | simp [tyN]
end
def rIsD (K : PySem.W.Frag) : List V → Hp → VK → Prop := fun xs H Q => ∃ (v : V) (d : PyData) (T : String), xs = [v, .ty T] ∧ Dp K H v d ∧ T ∈ ["str", "tuple", "list", "bool", "int"] ∧ Q (.bl (isOf T d)) H
section
variable {X : Cx}
theorem call_isD : CallR X (.builtin "isinstance") (rIsD X.K) := by
  intro pins s σ H xs us Q I r h
  obtain ⟨v, d, T, rfl, hd, hT, q⟩ := h
  exact call_isi pins s σ H _ us Q I r ⟨v, .ty T, .type (tyN d), .type T, isOf T d, rfl, .ty T, hd.ty, kit_ty (isOf_kit hd hT), q⟩
/-! ### repr of data -/
def shownB (d : PyData) : Prop := d.showable = true ∧ SeqAt.shaped d = true ∧ d.shown.length ≤ sizeLine
def rReprD (K : PySem.W.Frag) : List V → Hp → VK → Prop := fun xs H Q => ∃ (v : V) (d : PyData), xs = [v] ∧ Dp K H v d ∧ shownB d ∧ Q (.str d.shown) H
theorem call_reprD (hg : X.A.guards = some []) (hu : X.A.units + 70 < cLine) : CallR X (.builtin "repr") (rReprD X.K) := by
  intro pins s σ H xs us Q I r h
  obtain ⟨v, d, rfl, hd, ⟨hs, hsh, hl⟩, q⟩ := h
  obtain ⟨u, rfl, ru⟩ := vals1 r
  have hdep := SeqAt.depth_of_shaped hsh
  have hnd : d.hasDict = false := PyData.hasDict_of_canLay d (SeqAt.canLay_of_shaped hsh)
  obtain ⟨as, rd⟩ := Dp.reads I d v u hd ru
  have big : ∀ a, u = Value.ref a → wpAny (model X.prog X.w) X.A (call (.builtin "repr") [u]) (EP X pins σ Q) X.xe s := fun a e => by
    subst e
    exact repr_of_reads' rd hs (PyData.noDict_hsm hnd) hg (by omega) (fun _ _ e => e) (fun h' t tk k => ⟨.str d.shown, H, I.kept k, ⟨_, rfl⟩, q⟩) hl
  cases hd with
  | non =>
    cases ru
    exact PySem.P.repr_of_none ⟨.str _, H, I.tok _, ⟨_, rfl⟩, by simpa only [PyData.shown] using q⟩
  | bl b =>
    cases ru
    exact PySem.P.repr_of_bool ⟨.str _, H, I.tok _, ⟨_, rfl⟩, by simpa only [PyData.shown] using q⟩
  | int i =>
    obtain ⟨t, rfl⟩ := ru
    exact PySem.P.repr_of_int (by simpa [PyData.showable] using hs) ⟨.str _, H, I.tok _, ⟨_, rfl⟩, by simpa only [PyData.shown] using q⟩
  | str x =>
    obtain ⟨t, rfl⟩ := ru
    exact PySem.P.repr_of_str ⟨.str _, H, I.tok _, ⟨_, rfl⟩, by simpa only [PyData.shown] using q⟩ (by simpa only [PyData.shown] using hl)
  | lst _ _ => exact big _ ru
  | tup _ _ => exact big _ ru
end
/-! ### a comprehension over a text -/
theorem lc_str {z : Str} {g : TG} {tt : TT} {te : TE} {vs : List Nat} {σ : L2.St} {H1 : Hp} {D : Addr} {Qd : Hp → Prop} (Pv : Nat → Hp → Prop) (h0 : Pv 0 (upd H1 D (.lst [])))
    (hs : ∀ i c H, z.cps.toList[i]? = some c → Pv i H → g (.str ⟨#[c]⟩) (wipe σ vs) H fun σ2 H2 => wipe σ2 vs = wipe σ vs ∧ tt σ2 H2 fun b H3 =>
      if b = true then te σ2 H3 fun y H4 => ∃ acc, H4 D = some (.lst acc) ∧ acc.length < sizeLine ∧ Pv (i + 1) (upd H4 D (.lst (acc ++ [y]))) else Pv (i + 1) H3) (hd : ∀ H, Pv z.cps.toList.length H → Qd H) :
    ∃ W : Nat → Nat → Hp → Prop, (∃ m, W 0 m (upd H1 D (.lst []))) ∧ ∀ i m H, W i m H →
      ((Its z).stop i H ∧ Qd H) ∨ ((Its z).go i H ∧ ∃ Nx : Hp → Prop, (∀ H', Nx H' → ∃ m', m' < m ∧ W (i + 1) m' H') ∧ ∀ x H', (Its z).yld i H x H' → g x (wipe σ vs) H' fun σ2 H2 => wipe σ2 vs = wipe σ vs ∧ tt σ2 H2 fun b H3 =>
        if b = true then te σ2 H3 fun y H4 => ∃ acc, H4 D = some (.lst acc) ∧ acc.length < sizeLine ∧ Nx (upd H4 D (.lst (acc ++ [y]))) else Nx H3) := by
  have hz : z.cps.toList.length = z.cps.size := Array.length_toList
  refine ⟨fun i m H => m = z.cps.size - i ∧ i ≤ z.cps.size ∧ Pv i H, ⟨z.cps.size, by simp, Nat.zero_le _, h0⟩, ?_⟩
  rintro i m H ⟨rfl, hi, p⟩
  by_cases hlt : i < z.cps.size
  · refine .inr ⟨hlt, Pv (i + 1), fun H' p' => ⟨z.cps.size - (i + 1), by omega, rfl, hlt, p'⟩, fun x H' y => ?_⟩
    obtain ⟨e, c, hc, rfl⟩ := y
    subst e
    exact hs i c _ (by rw [Array.getElem?_toList]; exact hc) p
  · have e : i = z.cps.size := by omega
    subst e
    exact .inl ⟨Nat.le_refl _, hd H (by rw [hz]; exact p)⟩

/-! ### the pot: two numbers -/
structure Pot (H : Hp) (p : Addr) (x y : Int) : Prop where
  at_ : H p = some (.lst [.int x, .int y])
  x0 : 0 ≤ x
  y0 : 0 ≤ y
  y1 : y < 1099511627776
theorem Pot.ne {H : Hp} {p q : Addr} {x y : Int} (h : Pot H p x y) (hq : H q = none) : q ≠ p := fun e => by
  subst e
  rw [h.at_] at hq
  cases hq
theorem Pot.same {H H' : Hp} {p : Addr} {x y : Int} (h : Pot H p x y) (e : Same H H') : Pot H' p x y := ⟨e _ _ h.at_, h.x0, h.y0, h.y1⟩
theorem Pot.new {H : Hp} {p q : Addr} {x y : Int} {o : HO} (h : Pot H p x y) (hq : H q = none) : Pot (upd H q o) p x y := h.same (Same.new hq)
theorem hin_of {A : Around} {k : Nat} (hr : Room k A) : A.units + 65 < cLine := by have := hr.un; omega
theorem hrep_of {A : Around} {k : Nat} (hr : Room k A) : A.units + 70 < cLine := by have := hr.un; omega
end L2
set_option Elab.async false
set_option linter.all false
set_option maxRecDepth 100000
set_option maxHeartbeats 4000000
namespace L2
open PySem PySem.Spec PyProof.Rows
/-! a def whose promise is asked only where no repr is under way -/
structure FnG (P : Program) (w : World) (K : PySem.W.Frag) (mg : Str → Option Value) (base : Heap) (CX : CXT) (k : Nat) (f : Addr) (fd : FuncData) (ps : List Str) (sp : Sp) : Prop where
  run : ∀ (A : Around) (outer : List Env) (s : Shared) (H : Hp) (args : Args) (us : List Value) (vs : List V) (Q : VK) (E : XK), A.guards = some [] → Room k A → Env0 P w K mg base A outer s H →
    BindsTo s fd args (ps.zip us) → Vals vs us → sp vs H Q E → codeAny (model P w) A (.call (.ref f) args) (CR CX outer P w H s Q E) s
section
variable {P : Program} {w : World} {K : PySem.W.Frag} {mg : Str → Option Value} {base : Heap} {CX : CXT} {k : Nat}
theorem fnG_of {f : Addr} {nm ql : Str} {pa : Arguments} {bd : List Stmt} {sc : Scope} {dV kV dc pm cdv ct oc : Value} {an od : Option Addr} {osl : Array (Option Value)} {N ps : List Str} {sp : Sp}
    (lk : K.lookup f = some ⟨oc, od, .func (PySem.W.fnOf nm ql pa bd sc dV kV dc pm an cdv ct), osl⟩) (hcd : PySem.W.codeIn K cdv ql = true) (S : FnScope N ps sc)
    (ln : ∀ vs H Q E, sp vs H Q E → vs.length = ps.length)
    (hb : ∀ (A : Around) (outer : List Env) (s : Shared) (H : Hp) (vs : List V) (Q : VK) (E : XK), (A.deeper (envOfC ql sc s.heap.objs.size f cdv)).guards = some [] → Room k (A.deeper (envOfC ql sc s.heap.objs.size f cdv)) → sp vs H Q E →
      ∃ t, PSs (cxOf CX P w K mg base N ql sc f cdv A outer s H E) bd t ∧ t { nx := fun _ H' => Q .non H', rt := Q } (start N vs) H) :
    FnG P w K mg base CX (k + 1) f (PySem.W.fnOf nm ql pa bd sc dV kV dc pm an cdv ct) ps sp := by
  constructor
  intro A outer s H args us vs Q E hg hr e0 hbd rv hsp
  have hln := ln _ _ _ _ hsp
  have inK : K.In s.heap := e0.mod.kin.keeps (fun b o e => (e0.bs b o e).1)
  have noL : s.heap.NoLimit := e0.mod.nolimit.keeps (fun b o e => (e0.bs b o e).1)
  have hkd : ∀ y ∈ ps.zip us, sc.names.lookup y.1 = some .local ∨ (sc.names.lookup y.1 = some .cell ∧ ((cellsFrom (s.heap.objs.size + 1) sc.names []).lookup y.1).isSome = true) := by
    rintro ⟨n, v⟩ hy
    rcases S.par n (List.of_mem_zip hy).1 with z | z
    · exact Or.inl z
    · exact Or.inr ⟨z, PySem.W.cellsFrom_some _ _ _ (Or.inl z)⟩
  refine codeAny_call_function hr.depth (inK _ _ lk) rfl S.co S.gen rfl
    (PySem.W.codeRec_of inK hcd) (hbd _ _ _ _ ?_)
  refine wpAny_newFunctionEnv_cells S.kind hkd
    (fun env he s1 x => ?_)
  subst he
  refine ⟨noL.keeps x.toInCall.keep, codeAny_func ?_⟩
  obtain ⟨t, ht, hq⟩ := hb A outer s H vs Q E hg (hr.deeper _) hsp
  have I0 := inv_start (CX := CX) (E := E) S hr.hd e0 hln rv x
  refine wpAny_mono (ht.run [] s1 (start N vs) H _ I0 hq)
    (fun fl s' hs => ?_) (fun e s' hs => hs)
  have done : ∀ {σ' : St} {H' : Hp} {v : V} {u : Value}, Inv (cxOf CX P w K mg base N ql sc f cdv A outer s H E) [] σ' H' s' → RelV v u → Q v H' → CE outer P w H s Q u s' := by
    intro σ' H' v u J r q
    exact ⟨v, H', J.os, J.bare, J.base, J.hok, r, q⟩
  cases fl with
  | ret u =>
    obtain ⟨v, σ', H', J, r, q⟩ := hs
    exact done J r q
  | next =>
    obtain ⟨σ', H', J, q⟩ := hs
    exact done (v := .non) (u := .none) J rfl q
  | brk => exact (hs.elim fun _ ⟨_, _, q⟩ => q.elim)
  | cont => exact (hs.elim fun _ ⟨_, _, q⟩ => q.elim)
/-- by its place in the text, as C8's -/
theorem fnG0 {x : Str} {st : Stmt} {f : Addr} {fd : FuncData} {N ps : List Str} {sp : Sp} (D : C8.Def K mg x st f fd) (S : FnScope N ps (C8.fnScope st)) (ln : ∀ vs H Q E, sp vs H Q E → vs.length = ps.length)
    (hb : ∀ (cdv : Value) (A : Around) (outer : List Env) (s : Shared) (H : Hp) (vs : List V) (Q : VK) (E : XK), (A.deeper (envOfC x (C8.fnScope st) s.heap.objs.size f cdv)).guards = some [] → Room k (A.deeper (envOfC x (C8.fnScope st) s.heap.objs.size f cdv)) → sp vs H Q E →
      ∃ t, PSs (cxOf C8.CX0 P w K mg base N x (C8.fnScope st) f cdv A outer s H E).nox (C8.fnBody st) t ∧ t { nx := fun _ H' => Q .non H', rt := Q } (start N vs) H) : FnG P w K mg base C8.CX0 (k + 1) f fd ps sp := by
  obtain ⟨oc, od, dV, kV, doc, pm, an, cdv, ct, osl, rfl, lk, hcd⟩ := D.fn.ex
  refine fnG_of lk hcd S ln (fun A outer s H vs Q E hg hr hsp => ?_)
  obtain ⟨t, h, q⟩ := hb cdv A outer s H vs Q E hg hr hsp
  exact ⟨t, h.nox, q⟩
end
/-- the law's call, from such a promise -/
theorem lawG {P : Program} {w : World} {K : PySem.W.Frag} {mg mb : Str → Option Value} {CX : CXT} {k : Nat} {fa a : Addr} {fd : FuncData} {x : Str} {sp : Sp} {s₁ : Shared} {vs : List Value} {ns : List Int}
    (KX : K.In s₁.heap) (hns : s₁.heap.Ns mainGlobals mg) (hb : s₁.heap.Ns builtinsNs mb) (hbb : ∀ x : Str, x ≠ "__name__" → mb x = bootBuiltins x) (hlim : s₁.heap.NoLimit) (hg : s₁.gens = #[])
    (ha : s₁.heap.get? a = some { cls := .type "list", data := .seq vs.toArray }) (hi : IntsAre vs ns) (hl : ns.length ≤ sizeLine) (hr : Room k callerA)
    (F : ∀ base : Heap, K.In base → base.Ns mainGlobals mg → FnG P w K mg base CX k fa fd [x] sp)
    (hbind : ∀ (s : Shared) (u : Value), BindsTo s fd ⟨[u], []⟩ [(x, u)])
    (hsp : ∀ H : Hp, Only H → SqL K H a (ns.map V.int) → sp [.ref a] H (fun v _ => v = .bl true) fun _ _ _ => False)
    (hCX : ∀ H e s', CX [] H s₁ (fun _ _ _ => False) e s' → False) :
    codeAny (model P w) callerA (.call (.ref fa) ⟨[.ref a], []⟩) (fun r s' => r = .ok (.ret (.bool true)) ∧ OldK s₁.heap s'.heap ∧ s'.os = s₁.os ∧ AllBare s'.gens) s₁ := by
  have vi := vals_ints hi
  have hvl := hi.length
  have main : ∀ H : Hp, Only H → SqL K H a (ns.map V.int) → HOk P w H s₁.heap → (∀ b, H b ≠ none → b = a) → (H a ≠ none → K.lookup a = none) →
      codeAny (model P w) callerA (.call (.ref fa) ⟨[.ref a], []⟩) (fun r s' => r = .ok (.ret (.bool true)) ∧ OldK s₁.heap s'.heap ∧ s'.os = s₁.os ∧ AllBare s'.gens) s₁ := by
    intro H only hS hok onlyA noK
    have free : ∀ {b : Addr} {o : Obj} {es : Array DictEntry} {ep : Nat}, s₁.heap.get? b = some o → o.data = .dict es ep → H b = none := by
      intro b o es ep e d
      cases q : H b with
      | none => rfl
      | some u =>
        have hba : b = a := onlyA b (by rw [q]; simp)
        subst hba
        rw [ha] at e
        cases e
        exact nomatch (show Data.seq vs.toArray _ = Data.dict es ep from d)
    have nsAt : ∀ {b : Addr} {m : Str → Option Value}, s₁.heap.Ns b m → (hidT s₁.heap H).Ns b m := by
      rintro b m ⟨o, es, ep, e, d, r⟩
      exact ⟨o, es, ep, hidT_get e (free e d), d, r⟩
    have inB : K.In (hidT s₁.heap H) := by
      intro b o e
      refine hidT_get (KX b o e) ?_
      cases q : H b with
      | none => rfl
      | some u =>
        have hba : b = a := onlyA b (by rw [q]; simp)
        subst hba
        rw [noK (by rw [q]; simp)] at e
        cases e
    have md : Mod K mg (hidT s₁.heap H) := by
      obtain ⟨mc, h1, h2⟩ := hlim
      exact ⟨inB, nsAt hns, ⟨mb, nsAt hb, hbb⟩, ⟨mc, nsAt h1, h2⟩⟩
    have e0 : Env0 P w K mg (hidT s₁.heap H) callerA [] s₁ H := by
      refine ⟨rfl, md, fun b o e => of_hidT e, Nat.le_of_eq (hidT_size _ _), trivial, ?_, hok, .of_eq hg⟩
      intro b hb
      exact absurd (show b ∈ ([] : List Addr) from hb) (by simp)
    have hrun := (F _ inB (nsAt hns)).run callerA [] s₁ H ⟨[.ref a], []⟩ [.ref a] [.ref a] _ _ rfl hr e0
      (hbind s₁ (.ref a)) (.cons rfl .nil) (hsp H only hS)
    refine codeAny_mono hrun (fun r s' h => ?_)
    cases r with
    | error e => exact (hCX H e s' h).elim
    | ok fl =>
      cases fl with
      | ret u =>
        obtain ⟨v, H', os, bare, un, hok', r', q⟩ := h
        have qv : v = .bl true := q
        subst qv
        have ru : u = Value.bool true := r'
        subst ru
        refine ⟨rfl, OldK.of_keep ?_, os, bare⟩
        intro b o e
        cases q : H b with
        | none => exact un.keep b o e q (fun z => absurd (show b ∈ ([] : List Addr) from z) (by simp)) (by simp)
        | some u =>
          rcases only b with z | ⟨ob, ys, z⟩
          · rw [q] at z
            cases z
          · obtain ⟨e1, _⟩ := hok b _ z
            obtain ⟨e2, _⟩ := hok' b _ (un.frzs b ob _ z)
            rw [e] at e1
            cases e1
            exact e2
      | next => exact False.elim h
      | brk => exact False.elim h
      | cont => exact False.elim h
  cases hk : K.lookup a with
  | some o =>
    have e := KX a o hk
    rw [ha] at e
    cases e
    refine main (fun _ => none) (fun _ => Or.inl rfl) (Or.inr ⟨_, vs.toArray, _, hk, rfl, rfl, rfl, ?_, ?_⟩) ?_ (fun b z => absurd rfl z) (fun z => absurd rfl z)
    · rw [List.size_toArray, hvl]
      exact hl
    · simpa using vi
    · intro b u z
      exact nomatch (show (none : Option HO) = some u from z)
  | none =>
    refine main (fun b => if b = a then some (.frz { cls := .type "list", data := .seq vs.toArray } (.lst (ns.map V.int))) else none) (fun b => ?_) (Or.inl (Or.inr ⟨_, if_pos rfl⟩)) (fun b u z => ?_) (fun b z => ?_) (fun _ => hk)
    · by_cases hba : b = a
      · exact Or.inr ⟨_, _, if_pos hba⟩
      · exact Or.inl (if_neg hba)
    · by_cases hba : b = a
      · have zz := (if_pos hba).symm.trans z
        cases zz
        subst hba
        exact ⟨ha, by rw [List.length_map]; exact hl, vs, _, vi, ha⟩
      · have zz := (if_neg hba).symm.trans z
        cases zz
    · by_cases hba : b = a
      · exact hba
      · exact absurd (if_neg hba) z
/-- the goal that the head leaves, from such a promise of the law's def -/
theorem walkG {l : PySem.W.OpenLaw} {n k : Nat} {q : Program} {loose : List Str} {XP : (Str → Option Value) → Heap → Prop} {YP : World → Heap → Prop} {d : DefRec} {K : Params → PySem.W.Frag} {sp : PySem.W.Frag → Sp} {x : Str}
    (hn : l.most = some n) (hn2 : n ≤ sizeLine) (hdf : d.params.defaults = []) (hr : Room k callerA) (hY : ∀ (w : World) (h : Heap), YP w h → (K w.params).In h)
    (F : ∀ (w : World) (mg : Str → Option Value) (fa : Addr) (h : Heap), (K w.params).In h → h.Ns mainGlobals mg → mg d.name = some (.ref fa) →
      ∃ fd : FuncData, (∀ (s : Shared) (u : Value), BindsTo s fd ⟨[u], []⟩ [(x, u)]) ∧ ∀ base : Heap, (K w.params).In base → base.Ns mainGlobals mg → FnG l.prog w (K w.params) mg base C8.CX0 k fa fd [x] (sp (K w.params)))
    (hsp : ∀ (K : PySem.W.Frag) (H : Hp) (a : Addr) (ns : List Int), ns.length ≤ n → Only H → SqL K H a (ns.map V.int) → sp K [.ref a] H (fun v _ => v = .bl true) fun _ _ _ => False) :
    PySem.W.WalkO q loose XP YP l.row.toRowW d [] (fun f vs => PySem.call f vs) := by
  refine Att.attach_call hn hdf ?_
  intro w s₀ s₁ mg mb fa o pm cd doc a vs ns G Y ho hd hcd hmg hobj hints hlen hg
  have inK := hY w _ Y
  obtain ⟨fd, hb, hF⟩ := F w mg fa _ inK G.T.g hmg
  exact lawG inK G.T.g G.T.b G.T.builtins G.T.nolimit hg hobj hints (Nat.le_trans hlen hn2) hr hF hb (fun H hO hS => hsp _ H a ns hlen hO hS) (fun H e s' z => z)
end L2
set_option Elab.async false
set_option linter.all false
set_option maxRecDepth 100000
set_option maxHeartbeats 4000000
namespace L2
open PySem PySem.Spec PyProof.Rows
/-! ### a written dict by texts -/
def EntsV : List DictEntry → List (Str × V) → Prop := Paired fun e p => (∃ t, e.key = .str p.1 t) ∧ RelV p.2 e.val
theorem isStr_keyV {e : DictEntry} {x z : Str} {t : Tok} (h : e.key = .str x t) : e.key.isStr z = (z == x) := by
  rw [h, PySem.W.isStr_of, Bool.eq_iff_iff, beq_iff_eq]
  constructor
  · intro q
    obtain ⟨t', e'⟩ := Value.isStrOf_shape q
    injection e' with e1
    exact e1.symm
  · intro q
    rw [q]
    simp [Value.isStrOf]
theorem find_cv : ∀ {es : List DictEntry} {cs : List (Str × V)}, EntsV es cs → ∀ z, (match cs.lookup z with | some i => ∃ e, es.find? (·.key.isStr z) = some e ∧ RelV i e.val | none => es.find? (·.key.isStr z) = none) ∧ es.any (·.refKey) = false
  | _, _, .nil, z => ⟨rfl, rfl⟩
  | _, _, .cons (a := e) (b := p) ⟨⟨t, hk⟩, hv⟩ r, z => by
    obtain ⟨i1, i2⟩ := find_cv r z
    obtain ⟨y, i⟩ := p
    refine ⟨?_, ?_⟩
    · rw [List.lookup_cons, List.find?_cons, isStr_keyV hk]
      cases h : (z == y) with
      | true => exact ⟨e, rfl, hv⟩
      | false => exact i1
    · rw [List.any_cons, i2, Bool.or_false]
      unfold DictEntry.refKey
      rw [hk]
theorem nsIn_cv {K : PySem.W.Frag} {a : Addr} {c : Value} {od : Option Addr} {es : Array DictEntry} {n : Nat} {sl : Array (Option Value)} {cs : List (Str × V)} (h : K.lookup a = some ⟨c, od, .dict es n, sl⟩) (hc : EntsV es.toList cs) (z : Str) :
    (∃ v u, cs.lookup z = some v ∧ PySem.W.nsIn K a z = some (some u) ∧ RelV v u) ∨ (cs.lookup z = none ∧ PySem.W.nsIn K a z = some none) := by
  obtain ⟨h1, h2⟩ := find_cv hc z
  unfold PySem.W.nsIn
  rw [h]
  cases hl : cs.lookup z with
  | some i =>
    rw [hl] at h1
    obtain ⟨e, h3, h4⟩ := h1
    refine .inl ⟨i, e.val, rfl, ?_, h4⟩
    dsimp only
    rw [h3]
  | none =>
    rw [hl] at h1
    refine .inr ⟨rfl, ?_⟩
    dsimp only
    rw [h1, h2]
    rfl
/-- texts to tuples of so many things -/
def TupsOf (K : PySem.W.Frag) : List (Str × V) → List (Str × Int) → Prop := Paired fun a b => a.1 = b.1 ∧ ∃ p xs, a.2 = .ref p ∧ (∀ H, SqT K H p xs) ∧ (xs.length : Int) = b.2
theorem tupsOf {K : PySem.W.Frag} : ∀ {cs : List (Str × V)} {ks : List (Str × Int)}, TupsOf K cs ks → ∀ z, (∃ p xs c, cs.lookup z = some (.ref p) ∧ (∀ H, SqT K H p xs) ∧ ks.lookup z = some c ∧ (xs.length : Int) = c) ∨ (cs.lookup z = none ∧ ks.lookup z = none)
  | _, _, .nil, z => .inr ⟨rfl, rfl⟩
  | _, _, .cons (a := a) (b := b) ⟨h1, p, xs, h2, h3, h4⟩ r, z => by
    obtain ⟨y, v⟩ := a
    obtain ⟨y', c⟩ := b
    simp only at h1 h2 h4
    subst h1
    rw [List.lookup_cons, List.lookup_cons]
    cases h : (z == y) with
    | true => exact .inl ⟨p, xs, c, by rw [h2], h3, rfl, h4⟩
    | false => exact tupsOf r z
/-- a written tuple -/
theorem sqT_K {K : PySem.W.Frag} {a : Addr} {d : Option Addr} {its : Array Value} {n : Nat} {sl : Array (Option Value)} {xs : List V} (l : K.lookup a = some ⟨.type "tuple", d, .seq its n, sl⟩) (z : its.size ≤ sizeLine) (v : Vals xs its.toList) : ∀ H, SqT K H a xs := fun H => .inr ⟨_, its, n, l, rfl, rfl, z, v⟩
end L2
set_option Elab.async false
set_option linter.all false
set_option maxRecDepth 100000
set_option maxHeartbeats 4000000
namespace K16
open PySem PySem.Spec PyProof.Rows L2
open C8 (Cal Def cal0 pe_c fnBody fnScope fnArgs)

def topS (i : Nat) : Stmt := PySem.Challenge.pw_changewhile_k16_terms_told.main.body.getD i (.Pass ⟨0, 0, 0, 0⟩)
/-- what the module's names hold that are no defs -/
structure Tp (mg : Str → Option Value) : Prop where
  n_isinstance : mg "isinstance" = none
  n_str : mg "str" = none
  n_tuple : mg "tuple" = none
  n_list : mg "list" = none
  n_bool : mg "bool" = none
  n_len : mg "len" = none
  n_range : mg "range" = none
  n_max : mg "max" = none
  n_min : mg "min" = none
  n_repr : mg "repr" = none
  n_int : mg "int" = none
  g_NUMBERS : ∃ u, mg "NUMBERS" = some u ∧ RelV (.int 1000000000000) u
  g_MOST_LISTED : ∃ u, mg "MOST_LISTED" = some u ∧ RelV (.int 8) u
  g_LONGEST_NAME : ∃ u, mg "LONGEST_NAME" = some u ∧ RelV (.int 8) u

/-! ### the pot: three numbers -/
structure Pot (H : Hp) (p : Addr) (x y n : Int) : Prop where
  at_ : H p = some (.lst [.int x, .int y, .int n])
  x0 : 0 ≤ x
  y0 : 0 ≤ y
  y1 : y < 1099511627776
theorem Pot.ne {H : Hp} {p q : Addr} {x y n : Int} (h : Pot H p x y n) (hq : H q = none) : q ≠ p := fun e => by
  subst e
  rw [h.at_] at hq
  cases hq
theorem Pot.same {H H' : Hp} {p : Addr} {x y n : Int} (h : Pot H p x y n) (e : Same H H') : Pot H' p x y n := ⟨e _ _ h.at_, h.x0, h.y0, h.y1⟩
theorem Pot.new {H : Hp} {p q : Addr} {x y n : Int} {o : HO} (h : Pot H p x y n) (hq : H q = none) : Pot (upd H q o) p x y n := h.same (Same.new hq)
/-! ### arithmetic -/
theorem fmod_lo {a n : Int} (h : 0 < n) : 0 ≤ a.fmod n := by
  rw [Int.fmod_eq_emod_of_nonneg a (by omega)]
  exact Int.emod_nonneg a (by omega)
theorem fmod_hi {a n : Int} (h : 0 < n) : a.fmod n < n := by
  rw [Int.fmod_eq_emod_of_nonneg a (by omega)]
  exact Int.emod_lt_of_pos a h
theorem div_lo {a n : Int} (h : 0 < n) (ha : 0 ≤ a) : 0 ≤ a / n := Int.ediv_nonneg ha (by omega)
theorem pot_of {H : Hp} {p : Addr} {x y n : Int} (hx : 0 ≤ x) (hy : 0 ≤ y) (h : y < 1099511627776) : Pot (upd H p (.lst [.int x, .int y, .int n])) p x y n := ⟨upd_same, hx, hy, h⟩

section
variable {P : Program} {w : World} {K : PySem.W.Frag} {mg : Str → Option Value} {base : Heap}
/-! ### the drawing -/
abbrev sLTake : Stmt := topS 20
abbrev NLTake : List Str := ["_law_pot_here", "_law_many_here", "_law_digit"]
theorem scLTake : FnScope NLTake ["_law_pot_here", "_law_many_here"] (fnScope sLTake) := ⟨rfl, rfl, rfl, by decide +kernel, rfl, by decide +kernel, by decide +kernel⟩
def spTake : Sp := fun vs H Q _ => ∃ (p : Addr) (x y m n : Int), vs = [.ref p, .int n] ∧ Pot H p x y m ∧ 0 < n ∧ n.natAbs < 2 ^ 300 ∧
  ∀ r x' y', 0 ≤ r → r < n → Pot (upd H p (.lst [.int x', .int y', .int m])) p x' y' m → Q (.int r) (upd H p (.lst [.int x', .int y', .int m]))
theorem c_take {f : Addr} {fd : FuncData} (D : Def K mg "_law_take" sLTake f fd) (b : Binds K fd ["_law_pot_here", "_law_many_here"] []) : Cal P w K mg base 1 "_law_take" spTake [] := by
  refine cal0 D b .nil scLTake (fun vs H Q E h => ?_) (fun cdv A outer s H vs Q E hr h => ?_)
  · obtain ⟨p, x, y, m, n, rfl, _⟩ := h
    rfl
  · obtain ⟨p, x, y, m, n, rfl, hp, n0, n1, q⟩ := h
    have nd := scLTake.nd
    refine ⟨_, (pss_cons (ps_if (pt_cmpR op_gt (pe_ix ix_list (pv 0) pe_int (fun _ _ => rfl)) pe_int (nomark _))
      (pss_cons (ps_set (i := 2) nd rfl (.inl rfl) (pe_op op_modN (pe_ix ix_list (pv 0) pe_int (fun _ _ => rfl)) (pv 1)))
      (pss_cons (ps_asg (pe_op op_fdivW (pe_ix ix_list (pv 0) pe_int (fun _ _ => rfl)) (pv 1)) (pg_sub (pv 0) pe_int set_list))
      (pss_one (ps_ret (pv 2)))))
      pss_nil)
    (pss_cons (ps_asg (pe_op op_modN (pe_op op_add (pe_op op_mul (pe_ix ix_list (pv 0) pe_int (fun _ _ => rfl)) pe_int) pe_int) pe_int) (pg_sub (pv 0) pe_int set_list))
    (pss_one (ps_ret (pe_op op_modN (pe_op op_fdivW (pe_op op_modN (pe_op op_mul (pe_ix ix_list (pv 0) pe_int (fun _ _ => rfl)) (pe_ix ix_list (pv 0) pe_int (fun _ _ => rfl))) pe_int) pe_int) (pv 1)))))), ?_⟩
    have h0 := hp.x0
    have h1 := hp.y0
    have h2 := hp.y1
    have hl := hp.at_
    refine ⟨_, rfl, _, _, _, _, rfl, rfl, SqL.of hl, atI_nat (j := 0) rfl, _, _, rfl, rfl, _, rfl, ite2 (fun e => ?_) (fun e => ?_)⟩
    · refine ⟨_, rfl, _, _, _, _, rfl, rfl, SqL.of hl, atI_nat (j := 0) rfl, _, rfl, _, _, rfl, rfl, (show n ≠ 0 by omega), ?_⟩
      refine ⟨_, rfl, _, _, _, _, rfl, rfl, SqL.of hl, atI_nat (j := 0) rfl, _, rfl, _, _, rfl, rfl, wide_div n0 n1 (by decide) (by decide), ?_⟩
      refine ⟨_, rfl, _, _, _, _, rfl, rfl, hl, rfl, ?_⟩
      refine ⟨_, rfl, ?_⟩
      exact q _ _ _ (fmod_lo n0) (fmod_hi n0) (pot_of (div_lo n0 h0) h1 h2)
    · refine ⟨_, rfl, _, _, _, _, rfl, rfl, SqL.of hl, atI_nat (j := 1) rfl, _, _, rfl, rfl, .inl ⟨by omega, by omega⟩, _, _, rfl, rfl, _, _, rfl, rfl, (by show (2147483629 : Int) ≠ 0; decide), ?_⟩
      refine ⟨_, rfl, _, _, _, _, rfl, rfl, hl, rfl, ?_⟩
      have b0 : 0 ≤ (y * 39373 + 7919).fmod 2147483629 := fmod_lo (by decide)
      have b1 : (y * 39373 + 7919).fmod 2147483629 < 2147483629 := fmod_hi (by decide)
      refine ⟨_, rfl, _, _, _, _, rfl, rfl, SqL.of upd_same, atI_nat (j := 1) rfl, _, rfl, _, _, _, _, rfl, rfl, SqL.of upd_same, atI_nat (j := 1) rfl, _, _, rfl, rfl, .inl ⟨by omega, by omega⟩, _, _, rfl, rfl, (by show (2147483563 : Int) ≠ 0; decide), _, _, rfl, rfl, wide_div (b := 64) (by decide) (by decide) (by decide) (by decide), _, rfl, _, _, rfl, rfl, (show n ≠ 0 by omega), ?_⟩
      exact q _ _ _ (fmod_lo n0) (fmod_hi n0) (pot_of h0 b0 (by omega))

/-! ### a cell, the pot -/
abbrev sLCellAt : Stmt := topS 18
abbrev NLCellAt : List Str := ["_law_script", "_law_k"]
theorem scLCellAt : FnScope NLCellAt ["_law_script", "_law_k"] (fnScope sLCellAt) := ⟨rfl, rfl, rfl, by decide +kernel, rfl, by decide +kernel, by decide +kernel⟩
def spCellAt (K : PySem.W.Frag) : Sp := fun vs H Q _ => ∃ (a : Addr) (ns : List Int) (k : Nat), vs = [.ref a, .int k] ∧ SqL K H a (ns.map V.int) ∧ ∀ n, Q (.int n) H
theorem c_cellAt (T : Tp mg) {f : Addr} {fd : FuncData} (D : Def K mg "_law_cell_at" sLCellAt f fd) (b : Binds K fd ["_law_script", "_law_k"] []) : Cal P w K mg base 1 "_law_cell_at" (spCellAt K) [] := by
  refine cal0 D b .nil scLCellAt (fun vs H Q E h => ?_) (fun cdv A outer s H vs Q E hr h => ?_)
  · obtain ⟨a, ns, k, rfl, _⟩ := h
    rfl
  · obtain ⟨a, ns, k, rfl, hs, q⟩ := h
    refine ⟨_, (pss_one (ps_ret (pe_ifExp (pt_cmpR op_lt (pv 1) (pe_callB call_len_seq (by rfl) T.n_len (by decide +kernel) (pa_cons (pv 0) pa_nil)) (nomark _)) (pe_ix ix_list (pv 0) (pv 1) (fun _ _ => rfl)) pe_int))), ?_⟩
    refine ⟨_, rfl, _, rfl, _, _, rfl, .inl hs, _, _, rfl, rfl, _, rfl, ite2 (fun e => ?_) (fun e => ?_)⟩
    · have e1 : (k : Int) < ((ns.map V.int).length : Int) := of_decide_eq_true e
      have e2 : k < ns.length := by
        rw [List.length_map] at e1
        omega
      refine ⟨_, rfl, _, rfl, _, _, _, .int ns[k], rfl, rfl, hs, atI_nat (j := k) ?_, q _⟩
      rw [List.getElem?_map, List.getElem?_eq_getElem e2]
      rfl
    · exact q _
abbrev sLPot : Stmt := topS 19
abbrev NLPot : List Str := ["_law_cell", "_law_k"]
theorem scLPot : FnScope NLPot ["_law_cell", "_law_k"] (fnScope sLPot) := ⟨rfl, rfl, rfl, by decide +kernel, rfl, by decide +kernel, by decide +kernel⟩
def spPot : Sp := fun vs H Q _ => ∃ (c : Int) (k : Nat), vs = [.int c, .int k] ∧ k ≤ 100 ∧ ∀ p x y, H p = none → 0 ≤ x → 0 ≤ y → y < 1099511627776 → Q (.ref p) (upd H p (.lst [.int x, .int y]))
theorem c_pot {f : Addr} {fd : FuncData} (D : Def K mg "_law_pot" sLPot f fd) (b : Binds K fd ["_law_cell", "_law_k"] []) : Cal P w K mg base 1 "_law_pot" spPot [] := by
  refine cal0 D b .nil scLPot (fun vs H Q E h => ?_) (fun cdv A outer s H vs Q E hr h => ?_)
  · obtain ⟨c, k, rfl, _⟩ := h
    rfl
  · obtain ⟨c, k, rfl, hk, q⟩ := h
    refine ⟨_, (pss_cons (ps_if (pt_cmpR op_ge (pv 0) (pe_op op_pow pe_int pe_int) (nomark _))
      (pss_one (ps_ret (pe_lst (pa_cons (pv 0) (pa_cons (pe_op op_add pe_int (pv 1)) pa_nil)))))
      pss_nil)
    (pss_one (ps_ret (pe_lst (pa_cons pe_int (pa_cons (pe_op op_modN (pe_op op_add (pe_op op_add (pe_op op_add (pe_op op_mul (pv 0) pe_int) (pe_op op_mul (pe_op op_mul pe_int (pv 1)) (pv 1))) (pe_op op_mul pe_int (pv 1))) pe_int) pe_int) pa_nil)))))), ?_⟩
    refine ⟨_, rfl, _, _, rfl, rfl, (by show (0 : Int) ≤ 18 ∧ _; decide), _, _, rfl, rfl, _, rfl, ite2 (fun e => ?_) (fun e => ?_)⟩
    · have e1 : ((10 : Int) ^ (18 : Int).toNat) ≤ c := of_decide_eq_true e
      have e2 : (10 : Int) ^ (18 : Int).toNat = 1000000000000000000 := by decide
      refine ⟨_, rfl, _, rfl, _, _, rfl, rfl, (by show 2 ≤ sizeLine; decide), fun p hp => ?_⟩
      exact q p _ _ hp (by omega) (by omega) (by omega)
    · refine ⟨_, rfl, _, _, rfl, rfl, .inr ⟨by decide, by decide⟩, _, rfl, _, _, rfl, rfl, .inl ⟨by decide, by decide⟩, _, rfl, _, _, rfl, rfl, .inr ⟨by omega, by omega⟩, _, _, rfl, rfl, _, rfl, _, _, rfl, rfl, .inl ⟨by decide, by decide⟩, _, _, rfl, rfl, _, _, rfl, rfl, _, _, rfl, rfl, (by show (2147483647 : Int) ≠ 0; decide), (by show 2 ≤ sizeLine; decide), fun p hp => ?_⟩
      exact q p _ _ hp (by omega) (fmod_lo (by decide)) (Int.lt_trans (fmod_hi (by decide)) (by decide))

/-! ### names -/
def low (c : Nat) : Bool := decide (97 ≤ c) && decide (c ≤ 122)
def keptS (z : Str) : Bool := inV (.str z) [.str "number", .str "truth", .str "yes", .str "no"]
def nameS (z : Str) : Bool := (decide (1 ≤ z.length) && decide (z.length ≤ 8)) && (z.cps.toList.all low && !keptS z)
theorem len_tl (z : Str) : z.cps.toList.length = z.length := Array.length_toList
theorem tl_app (x y : Str) : (x ++ y).cps.toList = x.cps.toList ++ y.cps.toList := TL.tl_append x y
theorem abc_low : ∀ (j : Nat) (c : Nat), ("abcdefghijklmnopqrstuvwxyz" : Str).cps.toList[j]? = some c → low c = true := by
  have h : ("abcdefghijklmnopqrstuvwxyz" : Str).cps.toList.all low = true := by decide +kernel
  intro j c e
  exact List.all_eq_true.mp h c (List.mem_of_getElem? e)
def sevenN : List Str := ["a", "ab", "add", "empty", "list", "r", "x"]
theorem seven_ok : sevenN.all nameS = true := by decide +kernel
theorem kept_four {z : Str} (e : keptS z = true) : z = "number" ∨ z = "truth" ∨ z = "yes" ∨ z = "no" := by
  have h : (("number" : Str) == z || (("truth" : Str) == z || (("yes" : Str) == z || (("no" : Str) == z || false)))) = true := e
  simp only [Bool.or_eq_true, beq_iff_eq, Bool.false_eq_true, or_false] at h
  rcases h with h | h | h | h
  · exact .inl h.symm
  · exact .inr (.inl h.symm)
  · exact .inr (.inr (.inl h.symm))
  · exact .inr (.inr (.inr h.symm))
theorem kept_cut (z : Str) (e : keptS z = true) : (PySem.Txt.slice z none (some 7)).length ≤ 8 := by
  rcases kept_four e with rfl | rfl | rfl | rfl <;> decide +kernel
theorem kept_x (z : Str) (e : keptS z = true) : nameS (("x" : Str) ++ PySem.Txt.slice z none (some 7)) = true := by
  rcases kept_four e with rfl | rfl | rfl | rfl <;> decide +kernel
abbrev sLCalled : Stmt := topS 21
abbrev NLCalled : List Str := ["_law_pot_here", "_law_found", "_law_k"]
theorem scLCalled : FnScope NLCalled ["_law_pot_here"] (fnScope sLCalled) := ⟨rfl, rfl, rfl, by decide +kernel, rfl, by decide +kernel, by decide +kernel⟩
/-- all but the pot stays, and the pot stays one -/
def Going (p : Addr) (n : Int) (H H' : Hp) : Prop := But p H H' ∧ ∃ x y, Pot H' p x y n
theorem going_pot {p : Addr} {H H' : Hp} {x' y' n' : Int} (g : But p H H') (h : Pot (upd H' p (.lst [.int x', .int y', .int n'])) p x' y' n') : Going p n' H (upd H' p (.lst [.int x', .int y', .int n'])) := ⟨g.pot, _, _, h⟩
theorem Going.trans {p : Addr} {n m : Int} {H H1 H2 : Hp} (a : Going p n H H1) (b : Going p m H1 H2) : Going p m H H2 := ⟨a.1.trans b.1, b.2⟩
theorem Going.new {p q : Addr} {n : Int} {H H1 : Hp} {o : HO} (a : Going p n H H1) (hq : H1 q = none) : Going p n H (upd H1 q o) := ⟨a.1.trans (But.new hq), let ⟨x, y, h⟩ := a.2; ⟨x, y, h.new hq⟩⟩
theorem Going.same {p : Addr} {n : Int} {H H1 H2 : Hp} (a : Going p n H H1) (e : Same H1 H2) : Going p n H H2 := ⟨a.1.trans (But.same e), let ⟨x, y, h⟩ := a.2; ⟨x, y, h.same e⟩⟩
theorem Going.ne {p q : Addr} {n : Int} {H H1 : Hp} (a : Going p n H H1) (hq : H1 q = none) : q ≠ p := let ⟨_, _, h⟩ := a.2; h.ne hq
def spCalled : Sp := fun vs H Q _ => ∃ (p : Addr) (x y n : Int), vs = [.ref p] ∧ Pot H p x y n ∧ ∀ z H', nameS z = true → Going p n H H' → Q (.str z) H'
theorem c_called (T : Tp mg) (c_LTake : Cal P w K mg base 1 "_law_take" spTake []) {f : Addr} {fd : FuncData} (D : Def K mg "_law_called" sLCalled f fd) (b : Binds K fd ["_law_pot_here"] []) : Cal P w K mg base 2 "_law_called" spCalled [] := by
  refine cal0 D b .nil scLCalled (fun vs H Q E h => ?_) (fun cdv A outer s H vs Q E hr h => ?_)
  · obtain ⟨p, x, y, n, rfl, _⟩ := h
    rfl
  · obtain ⟨p, x, y, n, rfl, hp, q⟩ := h
    have nd := scLCalled.nd
    refine ⟨_, (pss_cons (ps_if (pt_cmpR op_gt (pe_c c_LTake hr (by decide) (by rfl) (pa_cons (pv 0) (pa_cons pe_int pa_nil))) pe_int (nomark _))
      (pss_one (ps_ret (pe_ix ix_list (pe_lst (pa_cons pe_str (pa_cons pe_str (pa_cons pe_str (pa_cons pe_str (pa_cons pe_str (pa_cons pe_str (pa_cons pe_str pa_nil)))))))) (pe_c c_LTake hr (by decide) (by rfl) (pa_cons (pv 0) (pa_cons pe_int pa_nil))) (fun _ _ => rfl))))
      pss_nil)
    (pss_cons (ps_set (i := 1) nd rfl (.inl rfl) pe_str)
    (pss_cons (ps_for PassesOwn.never rfl (pi_range1 (by rfl) T.n_range (pa_cons (pe_op op_add pe_int (pe_c c_LTake hr (by decide) (by rfl) (pa_cons (pv 0) (pa_cons pe_int pa_nil)))) pa_nil)) (pg_name (i := 2) nd rfl (.inl rfl))
      (pss_one (ps_set (i := 1) nd rfl (.inl rfl) (pe_op op_add_str (pv 1) (pe_ix ix_str pe_str (pe_c c_LTake hr (by decide) (by rfl) (pa_cons (pv 0) (pa_cons pe_int pa_nil))) (fun _ _ => rfl))))))
    (pss_cons (ps_if (pt_cmpR op_in_seq (pv 1) (pe_lst (pa_cons pe_str (pa_cons pe_str (pa_cons pe_str (pa_cons pe_str pa_nil))))) (by rfl))
      (pss_one (ps_ret (pe_op op_add_str pe_str (pe_slice C8.sl_txt (pv 1) po_none (po_some pe_int)))))
      pss_nil)
    (pss_one (ps_ret (pv 1))))))), ?_⟩
    refine ⟨_, rfl, p, x, y, n, 3, rfl, hp, by decide, by decide, fun r x1 y1 r0 r1 hp1 => ?_⟩
    have g1 : Going p n H (upd H p (.lst [.int x1, .int y1, .int n])) := going_pot (But.refl p H) hp1
    refine ⟨_, _, rfl, rfl, _, rfl, ite2 (fun e => ?_) (fun e => ?_)⟩
    · refine ⟨(by show 7 ≤ sizeLine; decide), fun l hl => ?_⟩
      have nl := hp1.ne hl
      refine ⟨_, rfl, p, x1, y1, n, 7, rfl, hp1.new hl, by decide, by decide, fun r2 x2 y2 r20 r21 hp2 => ?_⟩
      have hr2 : r2.toNat < 7 := by omega
      obtain ⟨z, hz⟩ : ∃ z, sevenN[r2.toNat]? = some z := ⟨_, List.getElem?_eq_getElem (show r2.toNat < sevenN.length from hr2)⟩
      refine ⟨l, sevenN.map V.str, r2, .str z, rfl, rfl, SqL.of (by rw [upd_ne nl, upd_same]; rfl), ?_, ?_⟩
      · have e2 : r2 = (r2.toNat : Int) := by omega
        rw [e2]
        refine atI_nat ?_
        rw [List.getElem?_map, hz]
        rfl
      · exact q z _ (List.all_eq_true.mp seven_ok z (List.mem_of_getElem? hz)) (going_pot (g1.1.trans (But.new hl)) hp2)
    · refine ⟨_, rfl, p, x1, y1, n, 8, rfl, hp1, by decide, by decide, fun r2 x2 y2 r20 r21 hp2 => ?_⟩
      have g2 := g1.trans (going_pot (But.refl p _) hp2)
      refine ⟨_, _, rfl, rfl, 1 + r2, rfl, by omega, by omega, ?_⟩
      refine for_range (lo := 0) (n := (1 + r2).toNat) (fun i σ H' => ∃ z v2, σ = [some (.ref p), some (.str z), v2] ∧ z.length = i ∧ z.cps.toList.all low = true ∧ Going p n H H') ⟨_, _, rfl, rfl, rfl, g2⟩ (fun i σ H' hi hW => ?_) (fun σ H' hW => ?_)
      · obtain ⟨z, v2, rfl, hz, hzl, g3⟩ := hW
        obtain ⟨x3, y3, hp3⟩ := g3.2
        refine ⟨_, rfl, _, rfl, p, x3, y3, n, 26, rfl, hp3, by decide, by decide, fun r4 x4 y4 r40 r41 hp4 => ?_⟩
        have hr4 : r4.toNat < 26 := by omega
        obtain ⟨c, hc⟩ : ∃ c, ("abcdefghijklmnopqrstuvwxyz" : Str).cps.toList[r4.toNat]? = some c := ⟨_, List.getElem?_eq_getElem (show r4.toNat < ("abcdefghijklmnopqrstuvwxyz" : Str).cps.toList.length by rw [show ("abcdefghijklmnopqrstuvwxyz" : Str).cps.toList.length = 26 by decide +kernel]; exact hr4)⟩
        have e2 : r4 = (r4.toNat : Int) := by omega
        refine ⟨_, r4, c, rfl, rfl, (by show (26 : Nat) ≤ sizeLine; decide), (by rw [e2]; exact atI_nat hc), ?_⟩
        refine ⟨_, _, rfl, rfl, ?_, ?_⟩
        · show z.length + 1 ≤ sizeLine
          rw [hz, sizeLine_eq]
          omega
        · refine ⟨_, _, rfl, ?_, ?_, g3.trans (going_pot (But.refl p _) hp4)⟩
          · rw [← len_tl, tl_app, List.length_append, len_tl, hz]
            rfl
          · rw [tl_app, List.all_append, hzl]
            show (low c && true) = true
            rw [abc_low _ _ hc]
            rfl
      · obtain ⟨z, v2, rfl, hz, hzl, g3⟩ := hW
        refine ⟨_, rfl, (by show 4 ≤ sizeLine; decide), fun l hl => ?_⟩
        have g4 := g3.new (o := .lst [.str "number", .str "truth", .str "yes", .str "no"]) hl
        refine ⟨l, _, rfl, .inl (SqL.of upd_same), rfl, rfl, _, rfl, ?_⟩
        show if (inV (.str z) [.str "number", .str "truth", .str "yes", .str "no"]) = true then _ else _
        refine ite2 (fun e => ?_) (fun e => ?_)
        · refine ⟨_, rfl, 7, rfl, z, rfl, (by rw [hz, sizeLine_eq]; omega), _, _, rfl, rfl, ?_, ?_⟩
          · have h7 := kept_cut z e
            rw [sizeLine_eq]
            have : ("x" : Str).length = 1 := by decide
            omega
          · refine q _ _ ?_ g4
            exact kept_x z e
        · refine ⟨_, rfl, ?_⟩
          refine q z _ ?_ g4
          have e1 : keptS z = false := by simpa [keptS] using e
          unfold nameS
          rw [hzl, e1, hz, decide_eq_true (show 1 ≤ (1 + r2).toNat by omega), decide_eq_true (show (1 + r2).toNat ≤ 8 by omega)]
          rfl
end
end K16
set_option Elab.async false
set_option linter.all false
set_option maxRecDepth 100000
set_option maxHeartbeats 4000000
namespace K16
open PySem PySem.Spec PyProof.Rows L2
open C8 (Cal Def cal0 pe_c fnBody fnScope fnArgs)
inductive Kd where
  | num | tru | rcd (z : Str) | lst (k : Kd)
def Kd.d : Kd → PyData
  | .num => .tuple [.str "number"]
  | .tru => .tuple [.str "truth"]
  | .rcd z => .tuple [.str "record", .str z]
  | .lst k => .tuple [.str "list", k.d]
def Kd.ok : Kd → Prop
  | .num => True
  | .tru => True
  | .rcd z => nameS z = true
  | .lst k => k.ok
def Kd.deep : Kd → Nat
  | .lst k => k.deep + 1
  | _ => 0
section
variable {P : Program} {w : World} {K : PySem.W.Frag} {mg : Str → Option Value} {base : Heap}
/-- a promise that is never asked -/
def spNo : Sp := fun _ _ _ _ => False
theorem cal_no {k : Nat} {x : Str} {st : Stmt} {f : Addr} {fd : FuncData} {ps : List Str} (sp : Sp) (h : ∀ vs H Q E, sp vs H Q E → False) (D : Def K mg x st f fd) (b : Binds K fd ps []) : Cal P w K mg base k x sp [] :=
  ⟨f, fd, ps, [], ⟨fun _ _ _ _ z => (h _ _ _ _ z).elim, fun _ _ _ _ _ _ _ _ _ _ _ _ _ z => (h _ _ _ _ z).elim⟩, D.mgf, D.kp, b, .nil⟩
abbrev sLKind : Stmt := topS 22
abbrev NLKind : List Str := ["_law_pot_here", "_law_deep", "_law_way"]
theorem scLKind : FnScope NLKind ["_law_pot_here", "_law_deep"] (fnScope sLKind) := ⟨rfl, rfl, rfl, by decide +kernel, rfl, by decide +kernel, by decide +kernel⟩
def spKind (K : PySem.W.Frag) (n : Nat) : Sp := fun vs H Q _ => ∃ (p : Addr) (x y pn : Int) (m : Nat), vs = [.ref p, .int m] ∧ m < n ∧ Pot H p x y pn ∧
  ∀ v (k : Kd) H', k.ok → k.deep ≤ m → Dh K p H' v k.d → Going p pn H H' → Q v H'
theorem c_kind (T : Tp mg) (c_LTake : Cal P w K mg base 1 "_law_take" spTake []) (c_LCalled : Cal P w K mg base 2 "_law_called" spCalled []) {f : Addr} {fd : FuncData} (D : Def K mg "_law_kind" sLKind f fd) (b : Binds K fd ["_law_pot_here", "_law_deep"] []) :
    ∀ n : Nat, Cal P w K mg base (2 + n) "_law_kind" (spKind K n) []
  | 0 => cal_no _ (fun vs H Q E ⟨p, x, y, pn, m, _, h, _⟩ => absurd h (Nat.not_lt_zero _)) D b
  | n + 1 => by
    have c_LKind := c_kind T c_LTake c_LCalled D b n
    refine cal0 D b .nil scLKind (fun vs H Q E h => ?_) (fun cdv A outer s H vs Q E hr h => ?_)
    · obtain ⟨p, x, y, pn, m, rfl, _⟩ := h
      rfl
    · obtain ⟨p, x, y, pn, m, rfl, hm, hp, q⟩ := h
      have nd := scLKind.nd
      have hr := (show Room (2 + n) _ from hr)
      refine ⟨_, (pss_cons (ps_set (i := 2) nd rfl (.inl rfl) (pe_c c_LTake hr (by omega) (by rfl) (pa_cons (pv 0) (pa_cons pe_int pa_nil))))
    (pss_cons (ps_if (PW.pt (pw_and (pt_cmpR op_gt (pv 2) pe_int (nomark _)) (pw_and1 (pt_cmpR op_gt (pv 1) pe_int (nomark _)))))
      (pss_one (ps_ret (pe_tup (pa_cons pe_str (pa_cons (pe_c c_LKind hr (by omega) (by rfl) (pa_cons (pv 0) (pa_cons (pe_op op_sub (pv 1) pe_int) pa_nil))) pa_nil)))))
      pss_nil)
    (pss_one (ps_ret (pe_ix ix_list (pe_lst (pa_cons (pe_tup (pa_cons pe_str pa_nil)) (pa_cons (pe_tup (pa_cons pe_str pa_nil)) (pa_cons (pe_tup (pa_cons pe_str (pa_cons (pe_c c_LCalled hr (by omega) (by rfl) (pa_cons (pv 0) pa_nil)) pa_nil))) pa_nil)))) (pe_op op_modN (pv 2) pe_int) (fun _ _ => rfl)))))), ?_⟩
      refine ⟨_, rfl, p, x, y, pn, 6, rfl, hp, by decide, by decide, fun r x1 y1 r0 r1 hp1 => ?_⟩
      have g1 : Going p pn H (upd H p (.lst [.int x1, .int y1, .int pn])) := going_pot (But.refl p H) hp1
      have rest : ∀ (H1 : Hp) , Going p pn H H1 → (tRet (tOp (rIxL K) (tLst (tCons (tTup (tCons (tC (.str "number")) tNil)) (tCons (tTup (tCons (tC (.str "truth")) tNil)) (tCons (tTup (tCons (tC (.str "record")) (tCons (tCall spCalled [] C8.E0 (tCons (tVar 0) tNil)) tNil))) tNil)))) (tOp (rI (fun _ j => j ≠ 0) fun i j => .int (i.fmod j)) (tVar 2) (tC (.int 3))))) { nx := fun _ H' => Q .non H', rt := Q } [some (.ref p), some (.int m), some (.int r)] H1 := by
        intro H1 g
        obtain ⟨x2, y2, hp2⟩ := g.2
        refine ⟨(by show 1 ≤ sizeLine; decide), fun t1 h1 => ⟨(by show 1 ≤ sizeLine; decide), fun t2 h2 => ?_⟩⟩
        have n1 := hp2.ne h1
        have gA := (g.new (o := .tup [.str "number"]) h1)
        have n2 := gA.ne h2
        have gB := (gA.new (o := .tup [.str "truth"]) h2)
        obtain ⟨x3, y3, hp3⟩ := gB.2
        refine ⟨_, rfl, p, x3, y3, pn, rfl, hp3, fun z H2 hz g2 => ?_⟩
        refine ⟨(by show 2 ≤ sizeLine; decide), fun t3 h3 => ⟨(by show 3 ≤ sizeLine; decide), fun l hl => ?_⟩⟩
        have gC := (gB.trans g2).new (o := .tup [.str "record", .str z]) h3
        have n3 := g2.ne h3
        have gD := gC.new (o := .lst [.ref t1, .ref t2, .ref t3]) hl
        have D1 : Dh K p H2 (.ref t1) (Kd.num).d := ((Dp.newT h1 n1 (.cons (.str _) .nil)).but (But.new h2)).but g2.1
        have D2 : Dh K p H2 (.ref t2) (Kd.tru).d := (Dp.newT h2 n2 (.cons (.str _) .nil)).but g2.1
        have D3 : Dh K p (upd H2 t3 (.tup [.str "record", .str z])) (.ref t3) (Kd.rcd z).d := Dp.newT h3 n3 (.cons (.str _) (.cons (.str _) .nil))
        refine ⟨_, rfl, _, _, rfl, rfl, (by show (3 : Int) ≠ 0; decide), ?_⟩
        have r3 : 0 ≤ r.fmod 3 := fmod_lo (by decide)
        have r4 : r.fmod 3 < 3 := fmod_hi (by decide)
        have hL : SqL K (upd (upd H2 t3 (.tup [.str "record", .str z])) l (.lst [.ref t1, .ref t2, .ref t3])) l [.ref t1, .ref t2, .ref t3] := SqL.of upd_same
        have hcase : r.fmod 3 = 0 ∨ r.fmod 3 = 1 ∨ r.fmod 3 = 2 := by omega
        rcases hcase with e | e | e
        · refine ⟨l, _, _, .ref t1, rfl, rfl, hL, by rw [e]; exact atI_nat (j := 0) rfl, ?_⟩
          exact q _ .num _ True.intro (Nat.zero_le _) ((D1.but (But.new h3)).but (But.new hl)) gD
        · refine ⟨l, _, _, .ref t2, rfl, rfl, hL, by rw [e]; exact atI_nat (j := 1) rfl, ?_⟩
          exact q _ .tru _ True.intro (Nat.zero_le _) ((D2.but (But.new h3)).but (But.new hl)) gD
        · refine ⟨l, _, _, .ref t3, rfl, rfl, hL, by rw [e]; exact atI_nat (j := 2) rfl, ?_⟩
          exact q _ (.rcd z) _ hz (Nat.zero_le _) (D3.but (But.new hl)) gD
      refine ⟨_, rfl, _, _, rfl, rfl, _, rfl, ite2 (fun e => ?_) (fun e => ?_)⟩
      · refine ⟨_, rfl, _, _, rfl, rfl, _, rfl, ite2 (fun e2 => ?_) (fun e2 => ?_)⟩
        · have m0 : (0 : Int) < m := of_decide_eq_true e2
          refine ⟨_, rfl, _, rfl, _, _, rfl, rfl, p, x1, y1, pn, m - 1, ?_, by omega, hp1, fun v k H2 hk hd hD g2 => ?_⟩
          · show [V.ref p, V.int ((m : Int) - 1)] = _
            rw [show ((m - 1 : Nat) : Int) = (m : Int) - 1 by omega]
          · refine ⟨(by show 2 ≤ sizeLine; decide), fun t ht => ?_⟩
            exact q _ (.lst k) _ hk (by show k.deep + 1 ≤ m; omega) (Dp.newT ht (g2.ne ht) (.cons (.str _) (.cons hD .nil))) ((g1.trans g2).new ht)
        · exact rest _ g1
      · show (if (false : Bool) = true then _ else _)
        exact iteF (rest _ g1)

/-! ### the program's looks -/
def nameB : PyData → Bool
  | .str z => nameS z
  | _ => false
def pairB (w : Str) : PyData → Bool
  | .tuple [.str u, _] => u == w
  | _ => false
def kindB : PyData → Bool
  | .tuple [.str w] => w == "number" || w == "truth"
  | .tuple [.str w, x] => if w == "list" then kindB x else w == "record" && nameB x
  | _ => false
theorem ascii_tab : (List.range 128).all (fun c => (Unicode.isAlpha c && !(Unicode.isUpper c || Unicode.isTitle c)) == low c && (!low c || Unicode.isLower c)) = true := by decide +kernel
theorem ascii_low {c : Nat} (h : c < 128) : (Unicode.isAlpha c && !(Unicode.isUpper c || Unicode.isTitle c)) = low c ∧ (low c = true → Unicode.isLower c = true) := by
  have h1 := List.all_eq_true.mp ascii_tab c (List.mem_range.mpr h)
  rw [Bool.and_eq_true] at h1
  refine ⟨eq_of_beq h1.1, fun hl => ?_⟩
  have h2 := h1.2
  rw [hl] at h2
  simpa using h2
theorem low128 {c : Nat} (h : low c = true) : c < 128 := by
  unfold low at h
  rw [Bool.and_eq_true] at h
  have := of_decide_eq_true h.2
  omega
theorem ascii3 {z : Str} (h : 1 ≤ z.length) : (PySem.Txt.isascii z && (PySem.Txt.isalpha z && PySem.Txt.islower z)) = z.cps.toList.all low := by
  unfold PySem.Txt.isascii PySem.Txt.isalpha PySem.Txt.islower
  simp only [← Array.all_toList, ← Array.any_toList]
  rw [Bool.eq_iff_iff]
  simp only [Bool.and_eq_true, List.all_eq_true, decide_eq_true_eq, List.any_eq_true, Bool.not_eq_true', List.any_eq_false]
  constructor
  · rintro ⟨h1, ⟨_, h3⟩, ⟨_, h5⟩⟩ c hc
    have a := (ascii_low (h1 c hc)).1
    rw [← a, h3 c hc]
    have b := h5 c hc
    simp only [Bool.not_eq_true] at b
    rw [b]
    rfl
  · intro hl
    have ne : z.cps.toList ≠ [] := fun e => by
      have := len_tl z
      rw [e] at this
      simp at this
      omega
    obtain ⟨c0, hc0⟩ := List.exists_mem_of_ne_nil _ ne
    have fact : ∀ c ∈ z.cps.toList, Unicode.isAlpha c = true ∧ (Unicode.isUpper c || Unicode.isTitle c) = false := fun c hc => by
      have a := (ascii_low (low128 (hl c hc))).1
      rw [hl c hc, Bool.and_eq_true, Bool.not_eq_true'] at a
      exact a
    refine ⟨fun c hc => low128 (hl c hc), ⟨?_, fun c hc => (fact c hc).1⟩, ⟨c0, hc0, (ascii_low (low128 (hl c0 hc0))).2 (hl c0 hc0)⟩, fun c hc => ?_⟩
    · show z.length > 0
      omega
    · simp only [Bool.not_eq_true]
      exact (fact c hc).2
/-! texts of data are short -/
mutual
def short : PyData → Bool
  | .str z => decide (z.length ≤ 1000)
  | .list xs => decide (xs.length ≤ 1000) && shortAll xs
  | .tuple xs => decide (xs.length ≤ 1000) && shortAll xs
  | .dict _ => false
  | _ => true
def shortAll : List PyData → Bool
  | [] => true
  | x :: xs => short x && shortAll xs
end
abbrev sPIsName : Stmt := topS 3
abbrev NPIsName : List Str := ["thing"]
theorem scPIsName : FnScope NPIsName ["thing"] (fnScope sPIsName) := ⟨rfl, rfl, rfl, by decide +kernel, rfl, by decide +kernel, by decide +kernel⟩
/-- a look at data: a truth told, all stays -/
def spLook (K : PySem.W.Frag) (g : PyData → Bool) : Sp := fun vs H Q _ => ∃ v d, vs = [v] ∧ Dp K H v d ∧ short d = true ∧ ∀ H', Same H H' → Q (.bl (g d)) H'
/-- the names that are kept, as the module has them -/
structure Kept (K : PySem.W.Frag) (mg : Str → Option Value) (aK : Addr) : Prop where
  g : ∃ u, mg "KEPT_WORDS" = some u ∧ RelV (.ref aK) u
  sq : ∀ H, SqT K H aK [.str "number", .str "truth", .str "yes", .str "no"]
theorem c_isName (T : Tp mg) {aK : Addr} (TK : Kept K mg aK) {f : Addr} {fd : FuncData} (D : Def K mg "is_name" sPIsName f fd) (b : Binds K fd ["thing"] []) : Cal P w K mg base 1 "is_name" (spLook K nameB) [] := by
  refine cal0 D b .nil scPIsName (fun vs H Q E h => ?_) (fun cdv A outer s H vs Q E hr h => ?_)
  · obtain ⟨v, d, rfl, _⟩ := h
    rfl
  · obtain ⟨v, d, rfl, hd, hs, q⟩ := h
    refine ⟨_, (pss_cons (ps_if (PW.pt (pw_or (pt_not (pt_val (pe_callB call_isD (by rfl) T.n_isinstance (by decide +kernel) (pa_cons (pv 0) (pa_cons (pe_bltn (v := .ty "str") (by rfl) T.n_str (by decide +kernel) rfl) pa_nil))))) (pw_or1 (pt_not (pt_chain op_le op_le pe_int (pe_callB call_len_str (by rfl) T.n_len (by decide +kernel) (pa_cons (pv 0) pa_nil)) (C8.pe_gc (by rfl) T.g_LONGEST_NAME))))))
      (pss_one (ps_ret pe_bl))
      pss_nil)
    (pss_one (ps_ret (pe_and (pe_m0 PySem.F.slot_str_isascii PySem.F.type_str_isascii mt_isascii (pv 0)) (pe_and (pe_m0 PySem.F.slot_str_isalpha PySem.F.type_str_isalpha mt_isalpha (pv 0)) (pe_and (pe_m0 PySem.F.slot_str_islower PySem.F.type_str_islower mt_islower (pv 0)) (pe_one (pe_cmpR op_notIn_seq (pv 0) (C8.pe_gc (by rfl) TK.g) (by rfl))))))))), ?_⟩
    refine ⟨_, rfl, v, d, "str", rfl, hd, by decide, _, rfl, ?_⟩
    cases hd with
    | str z =>
      have hz : z.length ≤ 1000 := of_decide_eq_true hs
      refine iteF ?_
      refine ⟨_, rfl, z, rfl, by rw [sizeLine_eq]; omega, _, _, rfl, rfl, _, rfl, ite2 (fun e1 => ?_) (fun e1 => ?_)⟩
      · have e1' : (1 : Int) ≤ z.length := of_decide_eq_true e1
        refine ⟨_, _, rfl, rfl, _, rfl, ite2 (fun e2 => ?_) (fun e2 => ?_)⟩
        · have e2' : ¬ ((z.length : Int) ≤ 8) := by simpa using e2
          show Q (.bl false) H
          have e : nameB (.str z) = false := by
            show nameS z = false
            unfold nameS
            rw [decide_eq_false (show ¬ z.length ≤ 8 by omega), Bool.and_false, Bool.false_and]
          exact e ▸ q H (Same.refl H)
        · have e2' : ((z.length : Int) ≤ 8) := by simpa using e2
          have e : nameB (.str z) = (PySem.Txt.isascii z && (PySem.Txt.isalpha z && (PySem.Txt.islower z && !keptS z))) := by
            show nameS z = _
            unfold nameS
            rw [decide_eq_true (show 1 ≤ z.length by omega), decide_eq_true (show z.length ≤ 8 by omega), ← ascii3 (show 1 ≤ z.length by omega)]
            simp only [Bool.and_assoc, Bool.true_and]
          have q' := q H (Same.refl H)
          rw [e] at q'
          refine ⟨_, rfl, ⟨z, rfl⟩, z, rfl, rfl, True.intro, _, rfl, ite2 (fun f1 => ?_) (fun f1 => ?_)⟩
          · rw [f1] at q'
            refine ⟨_, rfl, ⟨z, rfl⟩, z, rfl, rfl, True.intro, _, rfl, ite2 (fun f2 => ?_) (fun f2 => ?_)⟩
            · rw [f2] at q'
              refine ⟨_, rfl, ⟨z, rfl⟩, z, rfl, rfl, True.intro, _, rfl, ite2 (fun f3 => ?_) (fun f3 => ?_)⟩
              · rw [f3] at q'
                exact ⟨_, rfl, aK, _, rfl, .inr (TK.sq H), rfl, rfl, q'⟩
              · rw [eq_false_of_ne_true f3] at q'
                exact q'
            · rw [eq_false_of_ne_true f2] at q'
              exact q'
          · rw [eq_false_of_ne_true f1] at q'
            exact q'
      · refine ⟨_, rfl, iteT ?_⟩
        have e1' : ¬ ((1 : Int) ≤ z.length) := by simpa using e1
        have e : nameB (.str z) = false := by
          show nameS z = false
          unfold nameS
          rw [decide_eq_false (show ¬ 1 ≤ z.length by omega), Bool.false_and, Bool.false_and]
        exact e ▸ q H (Same.refl H)
    | _ => exact iteT (q H (Same.refl H))
end
end K16
set_option Elab.async false
set_option linter.all false
set_option maxRecDepth 100000
set_option maxHeartbeats 4000000
namespace K16
open PySem PySem.Spec PyProof.Rows L2
open C8 (Cal Def cal0 pe_c fnBody fnScope fnArgs)
section
variable {P : Program} {w : World} {K : PySem.W.Frag} {mg : Str → Option Value} {base : Heap}
theorem pairB_of {u : Str} {d : PyData} (h : pairB u d = true) : ∃ x, d = .tuple [.str u, x] := by
  unfold pairB at h
  split at h
  · rename_i y x
    have e : y = u := eq_of_beq h
    exact ⟨x, by rw [e]⟩
  · cases h
theorem pairB_two {u : Str} {ds : List PyData} (h : ds.length ≠ 2) : pairB u (.tuple ds) = false := by
  match ds, h with
  | [], _ => rfl
  | [_], _ => simp [pairB]
  | [_, _], h => exact absurd rfl h
  | _ :: _ :: _ :: _, _ => simp [pairB]
theorem short_all {ds : List PyData} (h : short (.tuple ds) = true) : ds.length ≤ 1000 ∧ shortAll ds = true := by
  have h' : (decide (ds.length ≤ 1000) && shortAll ds) = true := by simpa [short] using h
  rw [Bool.and_eq_true, decide_eq_true_eq] at h'
  exact h'
theorem short_two {x y : PyData} (h : short (.tuple [x, y]) = true) : short x = true ∧ short y = true := by
  have h1 := (short_all h).2
  simpa [shortAll] using h1
theorem _root_.L2.DpAll.two {H : Hp} {xs : List V} {x y : PyData} (h : DpAll K H xs [x, y]) : ∃ u v, xs = [u, v] ∧ Dp K H u x ∧ Dp K H v y := by
  cases h with
  | cons h0 t =>
    cases t with
    | cons h1 t2 =>
      cases t2
      exact ⟨_, _, rfl, h0, h1⟩
theorem _root_.L2.DpAll.one {H : Hp} {xs : List V} {x : PyData} (h : DpAll K H xs [x]) : ∃ u, xs = [u] ∧ Dp K H u x := by
  cases h with
  | cons h0 t =>
    cases t
    exact ⟨_, rfl, h0⟩
theorem two_of {α : Type} {l : List α} (h : l.length = 2) : ∃ x y, l = [x, y] := by
  match l, h with
  | [x, y], _ => exact ⟨x, y, rfl⟩
theorem one_of {α : Type} {l : List α} (h : l.length = 1) : ∃ x, l = [x] := by
  match l, h with
  | [x], _ => exact ⟨x, rfl⟩
theorem ne_int {m : Nat} {n : Nat} (h : m ≠ n) : (!decide (V.int (m : Int) = V.int (n : Int))) = true := by
  rw [decide_eq_false (fun e => h (by have := V.int.inj e; omega))]
  rfl
theorem eq_int {m : Nat} {n : Nat} (h : m = n) : (!decide (V.int (m : Int) = V.int (n : Int))) = false := by
  rw [decide_eq_true (by rw [h])]
  rfl
theorem iteT' {c : Bool} {A B : Prop} (e : c = true) (h : A) : if c = true then A else B := by
  subst e
  exact iteT h
theorem iteF' {c : Bool} {A B : Prop} (e : c = false) (h : B) : if c = true then A else B := by
  subst e
  exact iteF h
abbrev sPIsPair : Stmt := topS 5
abbrev NPIsPair : List Str := ["thing", "word"]
theorem scPIsPair : FnScope NPIsPair ["thing", "word"] (fnScope sPIsPair) := ⟨rfl, rfl, rfl, by decide +kernel, rfl, by decide +kernel, by decide +kernel⟩
def spPair (K : PySem.W.Frag) : Sp := fun vs H Q _ => ∃ v d u, vs = [v, .str u] ∧ Dp K H v d ∧ short d = true ∧ ∀ H', Same H H' → Q (.bl (pairB u d)) H'
theorem c_isPair (T : Tp mg) {f : Addr} {fd : FuncData} (D : Def K mg "_is_pair" sPIsPair f fd) (b : Binds K fd ["thing", "word"] []) : Cal P w K mg base 1 "_is_pair" (spPair K) [] := by
  refine cal0 D b .nil scPIsPair (fun vs H Q E h => ?_) (fun cdv A outer s H vs Q E hr h => ?_)
  · obtain ⟨v, d, u, rfl, _⟩ := h
    rfl
  · obtain ⟨v, d, u, rfl, hd, hs, q⟩ := h
    refine ⟨_, (pss_cons (ps_if (PW.pt (pw_or (pt_not (pt_val (pe_callB call_isD (by rfl) T.n_isinstance (by decide +kernel) (pa_cons (pv 0) (pa_cons (pe_bltn (v := .ty "tuple") (by rfl) T.n_tuple (by decide +kernel) rfl) pa_nil))))) (pw_or1 (pt_cmpR op_ne (pe_callB call_len_seq (by rfl) T.n_len (by decide +kernel) (pa_cons (pv 0) pa_nil)) pe_int (nomark _)))))
      (pss_one (ps_ret pe_bl))
      pss_nil)
    (pss_one (ps_ret (pe_and (pe_callB call_isD (by rfl) T.n_isinstance (by decide +kernel) (pa_cons (pe_ix ix_tup (pv 0) pe_int (fun _ _ => rfl)) (pa_cons (pe_bltn (v := .ty "str") (by rfl) T.n_str (by decide +kernel) rfl) pa_nil))) (pe_one (pe_cmpR op_eq (pe_ix ix_tup (pv 0) pe_int (fun _ _ => rfl)) (pv 1) (nomark _))))))), ?_⟩
    refine ⟨_, rfl, v, d, "tuple", rfl, hd, by decide, _, rfl, ?_⟩
    cases hd with
    | @tup a xs ds hq ha =>
      refine iteF ?_
      have hlen := ha.len
      refine ⟨_, rfl, a, xs, rfl, .inr hq, rfl, _, rfl, ?_⟩
      by_cases h2 : ds.length = 2
      · refine iteF' (eq_int (n := 2) (by omega)) ?_
        obtain ⟨d0, d1, rfl⟩ := two_of h2
        obtain ⟨v0, v1, rfl, h0, h1⟩ := ha.two
        refine ⟨_, rfl, a, _, _, v0, rfl, rfl, hq, atI_nat (j := 0) rfl, v0, d0, "str", rfl, h0, by decide, _, rfl, ?_⟩
        cases h0 with
        | str y =>
          refine iteT ?_
          refine ⟨_, rfl, a, _, _, .str y, rfl, rfl, hq, atI_nat (j := 0) rfl, _, rfl, rfl, ?_⟩
          have q' := q H (Same.refl H)
          rw [dec_str]
          exact q'
        | _ => exact iteF (q H (Same.refl H))
      · refine iteT' (ne_int (n := 2) (by omega)) ?_
        have q' := q H (Same.refl H)
        rw [pairB_two h2] at q'
        exact q'
    | _ => exact iteT (q H (Same.refl H))

end
end K16
set_option Elab.async false
set_option linter.all false
set_option maxRecDepth 100000
set_option maxHeartbeats 4000000
namespace K16
open PySem PySem.Spec PyProof.Rows L2
open C8 (Cal Def cal0 pe_c fnBody fnScope fnArgs)
section
variable {P : Program} {w : World} {K : PySem.W.Frag} {mg : Str → Option Value} {base : Heap}
abbrev sPIsKind : Stmt := topS 4
abbrev NPIsKind : List Str := ["thing"]
theorem scPIsKind : FnScope NPIsKind ["thing"] (fnScope sPIsKind) := ⟨rfl, rfl, rfl, by decide +kernel, rfl, by decide +kernel, by decide +kernel⟩
theorem kindB_list (x : PyData) : kindB (.tuple [.str "list", x]) = kindB x := by
  rw [kindB]
  rfl
theorem kindB_rec (x : PyData) : kindB (.tuple [.str "record", x]) = nameB x := by
  rw [kindB]
  rfl
theorem kindB_one (ds : List PyData) (h : ds.length ≠ 1) (hl : pairB "list" (.tuple ds) = false) (hr : pairB "record" (.tuple ds) = false) : kindB (.tuple ds) = false := by
  match ds, h, hl, hr with
  | [], _, _, _ => simp [kindB]
  | [_], h, _, _ => exact absurd rfl h
  | [d0, d1], _, hl, hr =>
    cases d0 with
    | str u =>
      have h1 : (u == ("list" : Str)) = false := hl
      have h2 : (u == ("record" : Str)) = false := hr
      rw [kindB, h1, h2]
      rfl
    | _ => simp [kindB]
  | _ :: _ :: _ :: _, _, _, _ => simp [kindB]
theorem kindB_not {d : PyData} (h : isT d = false) : kindB d = false := by
  cases d <;> first | (simp [isT] at h; done) | simp [kindB]
theorem depth_list (x : PyData) (u : Str) : (PyData.tuple [.str u, x]).depth = x.depth + 1 := by
  simp [PyData.depth, PyData.depthAll]
theorem c_isKind (T : Tp mg) (c_PIsPair : Cal P w K mg base 1 "_is_pair" (spPair K) []) (c_PIsName : Cal P w K mg base 1 "is_name" (spLook K nameB) []) {f : Addr} {fd : FuncData} (D : Def K mg "is_kind" sPIsKind f fd) (b : Binds K fd ["thing"] []) :
    Cal P w K mg base 2 "is_kind" (spLook K kindB) [] := by
  refine cal0 D b .nil scPIsKind (fun vs H Q E h => ?_) (fun cdv A outer s H vs Q E hr h => ?_)
  · obtain ⟨v, d, rfl, _⟩ := h
    rfl
  · obtain ⟨v0, d0, rfl, hd0, hs0, q⟩ := h
    have nd := scPIsKind.nd
    refine ⟨_, (pss_cons (ps_while PassesOwn.never (pt_val (pe_c c_PIsPair hr (by decide) (by rfl) (pa_cons (pv 0) (pa_cons pe_str pa_nil))))
      (pss_one (ps_set (i := 0) nd rfl (.inl rfl) (pe_ix ix_tup (pv 0) pe_int (fun _ _ => rfl)))))
    (pss_cons (ps_if (pt_val (pe_c c_PIsPair hr (by decide) (by rfl) (pa_cons (pv 0) (pa_cons pe_str pa_nil))))
      (pss_one (ps_ret (pe_c c_PIsName hr (by decide) (by rfl) (pa_cons (pe_ix ix_tup (pv 0) pe_int (fun _ _ => rfl)) pa_nil))))
      pss_nil)
    (pss_cons (ps_if (PW.pt (pw_or (pt_not (pt_val (pe_callB call_isD (by rfl) T.n_isinstance (by decide +kernel) (pa_cons (pv 0) (pa_cons (pe_bltn (v := .ty "tuple") (by rfl) T.n_tuple (by decide +kernel) rfl) pa_nil))))) (pw_or1 (pt_cmpR op_ne (pe_callB call_len_seq (by rfl) T.n_len (by decide +kernel) (pa_cons (pv 0) pa_nil)) pe_int (nomark _)))))
      (pss_one (ps_ret pe_bl))
      pss_nil)
    (pss_one (ps_ret (pe_and (pe_callB call_isD (by rfl) T.n_isinstance (by decide +kernel) (pa_cons (pe_ix ix_tup (pv 0) pe_int (fun _ _ => rfl)) (pa_cons (pe_bltn (v := .ty "str") (by rfl) T.n_str (by decide +kernel) rfl) pa_nil))) (pe_one (pe_cmpR op_in_seq (pe_ix ix_tup (pv 0) pe_int (fun _ _ => rfl)) (pe_tup (pa_cons pe_str (pa_cons pe_str pa_nil))) (by rfl))))))))), ?_⟩
    refine ⟨fun m σ H1 => ∃ v d, σ = [some v] ∧ Dp K H1 v d ∧ short d = true ∧ kindB d = kindB d0 ∧ Same H H1 ∧ m = d.depth, ⟨_, v0, d0, rfl, hd0, hs0, rfl, Same.refl H, rfl⟩, ?_⟩
    rintro m σ H1 ⟨v, d, rfl, hd, hs, hk, hS, rfl⟩
    refine ⟨_, rfl, v, d, "list", rfl, hd, hs, fun H2 e2 => ⟨_, rfl, ite2 (fun e => ?_) (fun e => ?_)⟩⟩
    · obtain ⟨x, rfl⟩ := pairB_of e
      cases hd with
      | tup hq ha =>
        obtain ⟨u0, u1, rfl, g0, g1⟩ := ha.two
        · refine ⟨fun σ' H' => ∃ m', m' < _ ∧ ∃ v d, σ' = [some v] ∧ Dp K H' v d ∧ short d = true ∧ kindB d = kindB d0 ∧ Same H H' ∧ m' = d.depth, fun σ' H' h => h, ?_⟩
          refine ⟨_, rfl, _, _, _, u1, rfl, rfl, sqT_mono e2 hq, atI_nat (j := 1) rfl, ?_⟩
          exact ⟨x.depth, by rw [depth_list]; exact Nat.lt_succ_self _, u1, x, rfl, g1.mono e2, (short_two hs).2, by rw [← hk, kindB_list], hS.trans e2, rfl⟩
    · have hl : pairB "list" d = false := eq_false_of_ne_true e
      have hS2 := hS.trans e2
      have hd2 := hd.mono e2
      refine ⟨_, rfl, v, d, "record", rfl, hd2, hs, fun H3 e3 => ⟨_, rfl, ite2 (fun e => ?_) (fun e => ?_)⟩⟩
      · obtain ⟨x, rfl⟩ := pairB_of e
        cases hd2 with
        | tup hq ha =>
          obtain ⟨u0, u1, rfl, g0, g1⟩ := ha.two
          · refine ⟨_, rfl, _, _, _, u1, rfl, rfl, sqT_mono e3 hq, atI_nat (j := 1) rfl, u1, x, rfl, g1.mono e3, (short_two hs).2, fun H4 e4 => ?_⟩
            have q' := q H4 ((hS2.trans e3).trans e4)
            rw [← hk, kindB_rec] at q'
            exact q'
      · have hrr : pairB "record" d = false := eq_false_of_ne_true e
        have hd3 := hd2.mono e3
        have q' := q H3 (hS2.trans e3)
        refine ⟨_, rfl, v, d, "tuple", rfl, hd3, by decide, _, rfl, ?_⟩
        cases hd3 with
        | @tup a xs ds hq ha =>
          refine iteF ?_
          have hlen := ha.len
          refine ⟨_, rfl, a, xs, rfl, .inr hq, rfl, _, rfl, ?_⟩
          by_cases h2 : ds.length = 1
          · refine iteF' (eq_int (n := 1) (by omega)) ?_
            obtain ⟨d1, rfl⟩ := one_of h2
            obtain ⟨u0, rfl, g0⟩ := ha.one
            · refine ⟨_, rfl, a, _, _, u0, rfl, rfl, hq, atI_nat (j := 0) rfl, u0, d1, "str", rfl, g0, by decide, _, rfl, ?_⟩
              cases g0 with
              | str y =>
                refine iteT ?_
                refine ⟨_, rfl, a, _, _, .str y, rfl, rfl, hq, atI_nat (j := 0) rfl, (by show 2 ≤ sizeLine; decide), fun t ht => ⟨t, _, rfl, .inr (SqT.of upd_same), rfl, rfl, ?_⟩⟩
                have q' := q _ ((hS2.trans e3).trans (Same.new (o := .tup [.str "number", .str "truth"]) ht))
                have ek : kindB (.tuple [.str y]) = inV (.str y) [.str "number", .str "truth"] := by
                  show (y == ("number" : Str) || y == ("truth" : Str)) = (("number" : Str) == y || (("truth" : Str) == y || false))
                  rw [Bool.or_false, Bool.eq_iff_iff]
                  simp only [Bool.or_eq_true, beq_iff_eq]
                  constructor <;> (rintro (h | h)) <;> first | exact .inl h.symm | exact .inr h.symm
                rw [← hk, ek] at q'
                exact q'
              | _ =>
                rw [← hk] at q'
                exact iteF (by simpa [kindB] using q')
          · refine iteT' (ne_int (n := 1) (by omega)) ?_
            rw [← hk, kindB_one ds h2 hl hrr] at q'
            exact q'
        | _ =>
          rw [← hk, kindB_not rfl] at q'
          exact iteT q'
end
end K16
set_option Elab.async false
set_option linter.all false
set_option maxRecDepth 100000
set_option maxHeartbeats 4000000
namespace K16
open PySem PySem.Spec PyProof.Rows L2
open C8 (Cal Def cal0 pe_c fnBody fnScope fnArgs)
section
variable {P : Program} {w : World} {K : PySem.W.Frag} {mg : Str → Option Value} {base : Heap}
abbrev abc : Str := "abcdefghijklmnopqrstuvwxyz"
theorem abc_tl : abc.cps.toList = List.range' 97 26 := by decide +kernel
theorem mem_abc (c : Nat) : decide (c ∈ abc.cps.toList) = low c := by
  rw [abc_tl, Bool.eq_iff_iff]
  unfold low
  rw [Bool.and_eq_true, decide_eq_true_eq, decide_eq_true_eq, decide_eq_true_eq, List.mem_range'_1]
  omega
def outs (z : Str) : List PyData := (z.cps.toList.filter fun c => !low c).map fun c => PyData.str ⟨#[c]⟩
/-- the data of the list that grows: signs that are no small letters -/
def outsN (l : List Nat) : List V := (l.filter fun c => !low c).map fun c => V.str ⟨#[c]⟩
def outsD (l : List Nat) : List PyData := (l.filter fun c => !low c).map fun c => PyData.str ⟨#[c]⟩
theorem outs_dp {H : Hp} : ∀ l : List Nat, DpAll K H (outsN l) (outsD l)
  | [] => .nil
  | c :: l => by
    unfold outsN outsD
    rw [List.filter_cons]
    by_cases h : (!low c) = true
    · rw [if_pos h]
      exact .cons (.str _) (outs_dp l)
    · rw [if_neg h]
      exact outs_dp l
theorem strOk_all {z : Str} (h : (PyData.str z).canLay0 = true) : ∀ c ∈ z.cps.toList, c < 0x110000 := by
  have h0 : z.cps.all (· < 0x110000) = true := by simpa only [PyData.canLay0, PyData.strOk] using h
  intro c hc
  have := (Array.all_eq_true_iff_forall_mem.mp h0) c (Array.mem_toList_iff.mp hc)
  simpa using this
theorem outs_lay : ∀ l : List Nat, (∀ c ∈ l, c < 0x110000) → PyData.canLayAll0 (outsD l) = true
  | [], _ => by simp [outsD, PyData.canLayAll0]
  | c :: l, h => by
    have ih := outs_lay l fun d hd => h d (List.mem_cons_of_mem _ hd)
    have hc := h c List.mem_cons_self
    unfold outsD at ih ⊢
    rw [List.filter_cons]
    by_cases hl : (!low c) = true
    · rw [if_pos hl, List.map_cons]
      simp only [PyData.canLayAll0, PyData.canLay0, PyData.strOk, Bool.and_eq_true]
      exact ⟨by simpa using hc, ih⟩
    · rw [if_neg hl]
      exact ih
theorem outs_depth : ∀ l : List Nat, PyData.depthAll (outsD l) = 0
  | [] => by simp [outsD, PyData.depthAll]
  | c :: l => by
    have ih := outs_depth l
    unfold outsD at ih ⊢
    rw [List.filter_cons]
    by_cases hl : (!low c) = true
    · rw [if_pos hl, List.map_cons]
      simp only [PyData.depthAll, PyData.depth, ih]
      rfl
    · rw [if_neg hl]
      exact ih
theorem outs_shaped {z : Str} (h : (PyData.str z).canLay0 = true) : SeqAt.shaped (.list (outsD z.cps.toList)) = true := by
  show ((PyData.list _).canLay0 && decide ((PyData.list _).depth ≤ 64)) = true
  rw [Bool.and_eq_true]
  refine ⟨by simp only [PyData.canLay0]; exact outs_lay _ (strOk_all h), decide_eq_true ?_⟩
  simp only [PyData.depth, outs_depth]
  decide
theorem outs_eqv (z : Str) : PyData.eqv (.list (outsD z.cps.toList)) (.list []) = z.cps.toList.all low := by
  simp only [PyData.eqv]
  unfold outsD
  induction z.cps.toList with
  | nil => simp [PyData.eqvAll]
  | cons c l ih =>
    rw [List.filter_cons, List.all_cons]
    by_cases hl : low c = true
    · rw [if_neg (by rw [hl]; decide), hl, Bool.true_and]
      exact ih
    · rw [eq_false_of_ne_true hl, if_pos (by decide), List.map_cons]
      simp [PyData.eqvAll]
theorem nil_shaped : SeqAt.shaped (.list []) = true := by
  show ((PyData.list []).canLay0 && decide ((PyData.list []).depth ≤ 64)) = true
  simp [PyData.canLay0, PyData.canLayAll0, PyData.depth, PyData.depthAll]
abbrev sLIsName : Stmt := topS 26
abbrev NLIsName : List Str := ["_law_thing", "_law_sign"]
theorem scLIsName : FnScope NLIsName ["_law_thing"] (fnScope sLIsName) := ⟨rfl, rfl, rfl, by decide +kernel, rfl, by decide +kernel, by decide +kernel⟩
/-- a look at data that may be laid -/
def spLook2 (K : PySem.W.Frag) (g : PyData → Bool) (n : Nat) : Sp := fun vs H Q _ => ∃ v d, vs = [v] ∧ Dp K H v d ∧ short d = true ∧ d.canLay0 = true ∧ d.depth < n ∧ n ≤ 64 ∧ ∀ H', Same H H' → Q (.bl (g d)) H'
theorem c_lisName (T : Tp mg) {f : Addr} {fd : FuncData} (D : Def K mg "_law_is_name" sLIsName f fd) (b : Binds K fd ["_law_thing"] []) : Cal P w K mg base 1 "_law_is_name" (spLook2 K nameB 64) [] := by
  refine cal0 D b .nil scLIsName (fun vs H Q E h => ?_) (fun cdv A outer s H vs Q E hr h => ?_)
  · obtain ⟨v, d, rfl, _⟩ := h
    rfl
  · obtain ⟨v, d, rfl, hd, hs, hcl, _, _, q⟩ := h
    have nd := scLIsName.nd
    refine ⟨_, (pss_cons (ps_if (PW.pt (pw_or (pt_not (pt_val (pe_callB call_isD (by rfl) T.n_isinstance (by decide +kernel) (pa_cons (pv 0) (pa_cons (pe_bltn (v := .ty "str") (by rfl) T.n_str (by decide +kernel) rfl) pa_nil))))) (pw_or (pt_cmpR op_eq (pv 0) pe_str (nomark _)) (pw_or (pt_cmpR op_gt (pe_callB call_len_str (by rfl) T.n_len (by decide +kernel) (pa_cons (pv 0) pa_nil)) pe_int (nomark _)) (pw_or1 (pt_cmpR op_in_seq (pv 0) (pe_lst (pa_cons pe_str (pa_cons pe_str (pa_cons pe_str (pa_cons pe_str pa_nil))))) (by rfl)))))))
      (pss_one (ps_ret pe_bl))
      pss_nil)
    (pss_one (ps_ret (pe_cmpR (op_eqD hr.units) (pe_lc (own := [("_law_sign", 1)]) (g := gName 1) (by rfl) nd (pi_str (pv 0)) (blkOk_by (own := [("_law_sign", 1)]) (N := NLIsName) (sc := fnScope sLIsName) (by decide +kernel)) (fun _ _ _ _ _ => pg_name (i := 1) nd rfl (Or.inl rfl)) (fun _ _ _ _ _ => (pts_one (pt_cmpR op_notIn_sign (pv 1) pe_str rfl))) (fun _ _ _ _ _ => (pv 1))) (pe_lst pa_nil) (nomark _))))), ?_⟩
    refine ⟨_, rfl, v, d, "str", rfl, hd, by decide, _, rfl, ?_⟩
    cases hd with
    | str z =>
      have hz : z.length ≤ 1000 := of_decide_eq_true hs
      refine iteF ?_
      refine ⟨_, rfl, rfl, _, rfl, ite2 (fun e1 => ?_) (fun e1 => ?_)⟩
      · have e1' : z = "" := V.str.inj (of_decide_eq_true e1)
        subst e1'
        exact iteT (q H (Same.refl H))
      · have e1' : 1 ≤ z.length := by
          rcases Nat.lt_or_ge 0 z.length with h | h
          · exact h
          · exfalso
            apply e1
            rw [decide_eq_true_eq]
            have hn : z.cps.toList = [] := List.length_eq_zero_iff.mp (by rw [len_tl]; omega)
            exact congrArg V.str (TL.ext_tl (by show z.cps.toList = _; rw [hn]; rfl))
        refine ⟨_, rfl, z, rfl, by rw [sizeLine_eq]; omega, _, _, rfl, rfl, _, rfl, ite2 (fun e2 => ?_) (fun e2 => ?_)⟩
        · have e2' : (8 : Int) < z.length := of_decide_eq_true e2
          have e : nameB (.str z) = false := by
            show nameS z = false
            unfold nameS
            rw [decide_eq_false (show ¬ z.length ≤ 8 by omega), Bool.and_false, Bool.false_and]
          exact iteT (e ▸ q H (Same.refl H))
        · have e2' : ¬ (8 : Int) < z.length := fun h => e2 (decide_eq_true h)
          refine ⟨_, rfl, (by show 4 ≤ sizeLine; decide), fun l hl => ?_⟩
          refine ⟨l, _, rfl, .inl (SqL.of upd_same), rfl, rfl, _, rfl, ?_⟩
          show if (keptS z) = true then _ else _
          have e : nameB (.str z) = (z.cps.toList.all low && !keptS z) := by
            show nameS z = _
            unfold nameS
            rw [decide_eq_true e1', decide_eq_true (show z.length ≤ 8 by omega)]
            rfl
          have sl : Same H (upd H l (.lst [.str "number", .str "truth", .str "yes", .str "no"])) := Same.new hl
          refine ite2 (fun e3 => ?_) (fun e3 => ?_)
          · have q' := q _ sl
            rw [e, e3, Bool.not_true, Bool.and_false] at q'
            exact q'
          · have e3' : keptS z = false := eq_false_of_ne_true e3
            refine ⟨_, rfl, z, rfl, fun D hD => ?_⟩
            refine lc_str (z := z) (fun i H' => Same H H' ∧ H' D = some (.lst (outsN (z.cps.toList.take i)))) ⟨sl.trans (Same.new hD), upd_same⟩ (fun i c H' hc hW => ?_) (fun H' hW => ?_)
            · obtain ⟨sm, hDl⟩ := hW
              refine ⟨rfl, _, rfl, c, abc, rfl, rfl, _, rfl, ?_⟩
              rw [mem_abc]
              have et : z.cps.toList.take (i + 1) = z.cps.toList.take i ++ [c] := by
                rw [List.take_add_one, hc]
                rfl
              refine ite2 (fun e4 => ?_) (fun e4 => ?_)
              · refine ⟨_, rfl, _, hDl, ?_, ?_, ?_⟩
                · refine Nat.lt_of_le_of_lt (Nat.le_trans (by rw [outsN, List.length_map]; exact List.length_filter_le _ _) ?_) (show 1000 < sizeLine by decide)
                  rw [List.length_take, len_tl]
                  omega
                · exact fun b o hb => by
                    rw [upd_ne (ne_of_none (sm b o hb |> fun x => hb) (sl.free hD))]
                    exact sm b o hb
                · rw [upd_same, et]
                  unfold outsN
                  rw [List.filter_append, List.map_append, List.filter_cons, if_pos e4]
                  rfl
              · refine ⟨sm, ?_⟩
                rw [hDl, et]
                unfold outsN
                rw [List.filter_append, List.map_append, List.filter_cons, if_neg e4]
                simp
            · obtain ⟨sm, hDl⟩ := hW
              rw [List.take_of_length_le (Nat.le_refl _)] at hDl
              refine ⟨(by show 0 ≤ sizeLine; decide), fun l2 hl2 => ?_⟩
              refine ⟨.list (outsD z.cps.toList), .list [], .lst (SqL.of ((Same.new hl2) _ _ hDl)) (outs_dp _), Dp.newL0 hl2 .nil, outs_shaped hcl, nil_shaped, ?_⟩
              rw [outs_eqv]
              have q' := q _ (sm.trans (Same.new (o := .lst []) hl2))
              rw [e, e3'] at q'
              simpa using q'
    | _ => exact iteT (q H (Same.refl H))
end
end K16
set_option Elab.async false
set_option linter.all false
set_option maxRecDepth 100000
set_option maxHeartbeats 4000000
namespace K16
open PySem PySem.Spec PyProof.Rows L2
open C8 (Cal Def cal0 pe_c fnBody fnScope fnArgs)
section
variable {P : Program} {w : World} {K : PySem.W.Frag} {mg : Str → Option Value} {base : Heap}
def strB (w : Str) : PyData → Bool
  | .str u => u == w
  | _ => false
theorem eqv_strB (d : PyData) (w : Str) : PyData.eqv d (.str w) = strB w d := by
  cases d <;> simp [PyData.eqv, strB]
theorem eqv_strB2 (d : PyData) (w : Str) : PyData.eqv (.str w) d = strB w d := by
  cases d <;> simp [PyData.eqv, strB]
  rw [Bool.eq_iff_iff]
  simp only [beq_iff_eq]
  exact ⟨fun h => h.symm, fun h => h.symm⟩
theorem eqv_tup1 (a b : PyData) : PyData.eqv (.tuple [a]) (.tuple [b]) = PyData.eqv a b := by
  rw [PyData.eqv, PyData.eqvAll, PyData.eqvAll, Bool.and_true]
theorem shaped_str {w : Str} (h : (PyData.str w).canLay0 = true) : SeqAt.shaped (.str w) = true := by
  show ((PyData.str w).canLay0 && decide ((PyData.str w).depth ≤ 64)) = true
  rw [h]
  simp [PyData.depth]
theorem shaped_of {d : PyData} (h : d.canLay0 = true) (n : d.depth ≤ 64) : SeqAt.shaped d = true := by
  show (d.canLay0 && decide (d.depth ≤ 64)) = true
  rw [h, decide_eq_true n]
  rfl
theorem lay_two {x y : PyData} (h : (PyData.tuple [x, y]).canLay0 = true) : x.canLay0 = true ∧ y.canLay0 = true := by
  simpa [PyData.canLay0, PyData.canLayAll0] using h
theorem depth_two (x y : PyData) : (PyData.tuple [x, y]).depth = max x.depth y.depth + 1 := by
  simp [PyData.depth, PyData.depthAll]
theorem kindB_one1 (d1 : PyData) : kindB (.tuple [d1]) = (strB "number" d1 || strB "truth" d1) := by
  cases d1 <;> simp [kindB, strB]
theorem kindB_two (x y : PyData) : kindB (.tuple [x, y]) = if strB "list" x then kindB y else (strB "record" x && nameB y) := by
  cases x <;> simp [kindB, strB]
theorem kindB_len (ds : List PyData) (h1 : ds.length ≠ 1) (h2 : ds.length ≠ 2) : kindB (.tuple ds) = false := by
  refine kindB_one ds h1 (pairB_two h2) (pairB_two h2)
theorem lay_lit (w : Str) (h : (PyData.str w).canLay0 = true) : (PyData.str w).canLay0 = true := h
abbrev sLIsKind : Stmt := topS 27
abbrev NLIsKind : List Str := ["_law_thing"]
theorem scLIsKind : FnScope NLIsKind ["_law_thing"] (fnScope sLIsKind) := ⟨rfl, rfl, rfl, by decide +kernel, rfl, by decide +kernel, by decide +kernel⟩
theorem two_lit_shaped : SeqAt.shaped (.list [.tuple [.str "number"], .tuple [.str "truth"]]) = true := by decide +kernel
theorem c_lisKind (T : Tp mg) (c_LIsName : Cal P w K mg base 1 "_law_is_name" (spLook2 K nameB 64) []) {f : Addr} {fd : FuncData} (D : Def K mg "_law_is_kind" sLIsKind f fd) (b : Binds K fd ["_law_thing"] []) :
    ∀ n : Nat, Cal P w K mg base (1 + n) "_law_is_kind" (spLook2 K kindB n) []
  | 0 => cal_no _ (fun vs H Q E ⟨v, d, _, _, _, _, h, _⟩ => absurd h (Nat.not_lt_zero _)) D b
  | n + 1 => by
    have c_LIsKind := c_lisKind T c_LIsName D b n
    refine cal0 D b .nil scLIsKind (fun vs H Q E h => ?_) (fun cdv A outer s H vs Q E hr h => ?_)
    · obtain ⟨v, d, rfl, _⟩ := h
      rfl
    · obtain ⟨v, d, rfl, hd, hs, hcl, hdep, hn, q⟩ := h
      have nd := scLIsKind.nd
      have hr := (show Room (1 + n) _ from hr)
      refine ⟨_, (pss_cons (ps_if (PW.pt (pw_or (pt_not (pt_val (pe_callB call_isD (by rfl) T.n_isinstance (by decide +kernel) (pa_cons (pv 0) (pa_cons (pe_bltn (v := .ty "tuple") (by rfl) T.n_tuple (by decide +kernel) rfl) pa_nil))))) (pw_or1 (pt_cmpR op_notIn_seq (pe_callB call_len_seq (by rfl) T.n_len (by decide +kernel) (pa_cons (pv 0) pa_nil)) (pe_lst (pa_cons pe_int (pa_cons pe_int pa_nil))) (by rfl)))))
      (pss_one (ps_ret pe_bl))
      pss_nil)
    (pss_cons (ps_if (pt_cmpR op_eq (pe_callB call_len_seq (by rfl) T.n_len (by decide +kernel) (pa_cons (pv 0) pa_nil)) pe_int (nomark _))
      (pss_one (ps_ret (pe_cmpR (op_inD (hin_of hr)) (pv 0) (pe_lst (pa_cons (pe_tup (pa_cons pe_str pa_nil)) (pa_cons (pe_tup (pa_cons pe_str pa_nil)) pa_nil))) (by rfl))))
      pss_nil)
    (pss_cons (ps_if (pt_cmpR (op_eqD hr.units) (pe_ix ix_tup (pv 0) pe_int (fun _ _ => rfl)) pe_str (nomark _))
      (pss_one (ps_ret (pe_c c_LIsKind hr (Nat.le_refl _) (by rfl) (pa_cons (pe_ix ix_tup (pv 0) pe_int (fun _ _ => rfl)) pa_nil))))
      pss_nil)
    (pss_one (ps_ret (pe_and (pe_cmpR (op_eqD hr.units) (pe_ix ix_tup (pv 0) pe_int (fun _ _ => rfl)) pe_str (nomark _)) (pe_one (pe_c c_LIsName hr (by omega) (by rfl) (pa_cons (pe_ix ix_tup (pv 0) pe_int (fun _ _ => rfl)) pa_nil))))))))), ?_⟩
      refine ⟨_, rfl, v, d, "tuple", rfl, hd, by decide, _, rfl, ?_⟩
      have hsh := shaped_of hcl (show d.depth ≤ 64 by omega)
      cases d with
      | tuple ds =>
        refine iteF ?_
        cases hd with
        | @tup a xs _ hq ha =>
          have hlen := ha.len
          refine ⟨_, rfl, a, xs, rfl, .inr hq, (by show 2 ≤ sizeLine; decide), fun l hl => ?_⟩
          have sl : Same H (upd H l (.lst [.int 1, .int 2])) := Same.new hl
          refine ⟨l, _, rfl, .inl (SqL.of upd_same), rfl, rfl, _, rfl, ?_⟩
          show if (!(((1 : Int) == (xs.length : Int)) || (((2 : Int) == (xs.length : Int)) || false))) = true then _ else _
          by_cases h1 : ds.length = 1
          · obtain ⟨d1, rfl⟩ := one_of h1
            obtain ⟨u0, rfl, g0⟩ := ha.one
            refine iteF ?_
            refine ⟨_, rfl, a, _, rfl, .inr (sqT_mono sl hq), rfl, _, rfl, iteT' (decide_eq_true rfl) ?_⟩
            refine ⟨_, rfl, (by show 1 ≤ sizeLine; decide), fun t1 h1 => ⟨(by show 1 ≤ sizeLine; decide), fun t2 h2 => ⟨(by show 2 ≤ sizeLine; decide), fun l2 hl2 => ?_⟩⟩⟩
            have s3 := (Same.new (o := .tup [.str "number"]) h1).trans ((Same.new (o := .tup [.str "truth"]) h2).trans (Same.new (o := .lst [.ref t1, .ref t2]) hl2))
            refine ⟨.tuple [d1], [.tuple [.str "number"], .tuple [.str "truth"]], .tup (sqT_mono s3 (sqT_mono sl hq)) (.cons ((g0.mono sl).mono s3) .nil), ?_, hsh, two_lit_shaped, ?_⟩
            · exact Dp.newL0 hl2 (.cons ((Dp.newT0 h1 (.cons (.str _) .nil)).mono (Same.new h2)) (.cons (Dp.newT0 h2 (.cons (.str _) .nil)) .nil))
            · have q' := q _ (sl.trans s3)
              rw [kindB_one1] at q'
              have ee : ([PyData.tuple [.str "number"], PyData.tuple [.str "truth"]].any fun z => PyData.eqv z (.tuple [d1])) = (strB "number" d1 || strB "truth" d1) := by
                rw [List.any_cons, List.any_cons, List.any_nil, eqv_tup1, eqv_tup1, eqv_strB2, eqv_strB2, Bool.or_false]
              rw [ee]
              exact q'
          · by_cases h2 : ds.length = 2
            · obtain ⟨d0, d1, rfl⟩ := two_of h2
              obtain ⟨u0, u1, rfl, g0, g1⟩ := ha.two
              refine iteF ?_
              refine ⟨_, rfl, a, _, rfl, .inr (sqT_mono sl hq), rfl, _, rfl, iteF' (decide_eq_false (fun e => by have := V.int.inj e; simp at this)) ?_⟩
              have hc2 := lay_two hcl
              have hdd := depth_two d0 d1
              have hs2 := short_two hs
              refine ⟨_, rfl, a, _, _, u0, rfl, rfl, sqT_mono sl hq, atI_nat (j := 0) rfl, d0, .str "list", g0.mono sl, .str _, shaped_of hc2.1 (by omega), by decide +kernel, _, rfl, ?_⟩
              rw [eqv_strB]
              have q1 := fun H' s' => q H' s'
              rw [kindB_two] at q1
              refine ite2 (fun e => ?_) (fun e => ?_)
              · refine ⟨_, rfl, a, _, _, u1, rfl, rfl, sqT_mono sl hq, atI_nat (j := 1) rfl, u1, d1, rfl, g1.mono sl, hs2.2, hc2.2, by omega, by omega, fun H' s' => ?_⟩
                have q' := q1 H' (sl.trans s')
                rw [if_pos e] at q'
                exact q'
              · refine ⟨_, rfl, a, _, _, u0, rfl, rfl, sqT_mono sl hq, atI_nat (j := 0) rfl, d0, .str "record", g0.mono sl, .str _, shaped_of hc2.1 (by omega), by decide +kernel, _, rfl, ?_⟩
                rw [eqv_strB]
                refine ite2 (fun e3 => ?_) (fun e3 => ?_)
                · refine ⟨_, rfl, a, _, _, u1, rfl, rfl, sqT_mono sl hq, atI_nat (j := 1) rfl, u1, d1, rfl, g1.mono sl, hs2.2, hc2.2, by omega, by decide, fun H' s' => ?_⟩
                  have q' := q1 H' (sl.trans s')
                  rw [if_neg e, e3, Bool.true_and] at q'
                  exact q'
                · have q' := q1 _ sl
                  rw [if_neg e, eq_false_of_ne_true e3, Bool.false_and] at q'
                  exact q'
            · have e1 : ((1 : Int) == (xs.length : Int)) = false := beq_eq_false_iff_ne.mpr (by omega)
              have e2 : ((2 : Int) == (xs.length : Int)) = false := beq_eq_false_iff_ne.mpr (by omega)
              rw [e1, e2]
              have q' := q _ sl
              rw [kindB_len ds h1 h2] at q'
              exact iteT q'
      | _ =>
        have q' := q H (Same.refl H)
        rw [kindB_not rfl] at q'
        exact iteT q'
end
end K16
set_option Elab.async false
set_option linter.all false
set_option maxRecDepth 100000
set_option maxHeartbeats 4000000
namespace K16
open PySem PySem.Spec PyProof.Rows L2
open C8 (Cal Def cal0 pe_c fnBody fnScope fnArgs)
/-- small data: n deep, m heavy -/
structure Ok (n m : Nat) (d : PyData) : Prop where
  lay : d.canLay0 = true
  dep : d.depth ≤ n
  wt : d.weight ≤ m
  sh : short d = true
  ish : d.intsShort 13 = true
  shw : d.showable = true
structure OkAll (n m : Nat) (ds : List PyData) : Prop where
  lay : PyData.canLayAll0 ds = true
  dep : PyData.depthAll ds ≤ n
  wt : PyData.weightAll ds ≤ m
  sh : shortAll ds = true
  ish : PyData.intsShortAll 13 ds = true
  shw : PyData.showableAll ds = true
theorem Ok.mono {n m n' m' : Nat} {d : PyData} (h : Ok n m d) (hn : n ≤ n') (hm : m ≤ m') : Ok n' m' d := ⟨h.lay, Nat.le_trans h.dep hn, Nat.le_trans h.wt hm, h.sh, h.ish, h.shw⟩
theorem OkAll.nil {n m : Nat} : OkAll n m [] := ⟨by simp [PyData.canLayAll0], by simp [PyData.depthAll], by simp [PyData.weightAll], by simp [shortAll], by simp [PyData.intsShortAll], by simp [PyData.showableAll]⟩
theorem OkAll.cons {n a b : Nat} {d : PyData} {ds : List PyData} (h : Ok n a d) (t : OkAll n b ds) : OkAll n (a + 1 + b) (d :: ds) :=
  ⟨by simp only [PyData.canLayAll0, h.lay, t.lay, Bool.and_self], by simp only [PyData.depthAll]; exact Nat.max_le.mpr ⟨h.dep, t.dep⟩, by simp only [PyData.weightAll]; have := h.wt; have := t.wt; omega,
   by simp only [shortAll, h.sh, t.sh, Bool.and_self], by simp only [PyData.intsShortAll, h.ish, t.ish, Bool.and_self], by simp only [PyData.showableAll, h.shw, t.shw, Bool.and_self]⟩
theorem Ok.tup {n m : Nat} {ds : List PyData} (h : OkAll n m ds) (hl : ds.length ≤ 1000) : Ok (n + 1) m (.tuple ds) :=
  ⟨by simp only [PyData.canLay0, h.lay], by simp only [PyData.depth]; have := h.dep; omega, by simp only [PyData.weight]; exact h.wt, by simp only [short, h.sh, decide_eq_true hl, Bool.and_self], by simp only [PyData.intsShort, h.ish], by simp only [PyData.showable, h.shw]⟩
theorem Ok.lst {n m : Nat} {ds : List PyData} (h : OkAll n m ds) (hl : ds.length ≤ 1000) : Ok (n + 1) m (.list ds) :=
  ⟨by simp only [PyData.canLay0, h.lay], by simp only [PyData.depth]; have := h.dep; omega, by simp only [PyData.weight]; exact h.wt, by simp only [short, h.sh, decide_eq_true hl, Bool.and_self], by simp only [PyData.intsShort, h.ish], by simp only [PyData.showable, h.shw]⟩
theorem OkAll.app {n a b : Nat} : ∀ {ds es : List PyData}, OkAll n a ds → OkAll n b es → OkAll n (a + b) (ds ++ es)
  | [], es, _, t => ⟨t.lay, t.dep, Nat.le_trans t.wt (Nat.le_add_left _ _), t.sh, t.ish, t.shw⟩
  | d :: ds, es, h, t => by
    have hl : d.canLay0 = true ∧ PyData.canLayAll0 ds = true := by simpa [PyData.canLayAll0] using h.lay
    have hd : max d.depth (PyData.depthAll ds) ≤ n := by simpa only [PyData.depthAll] using h.dep
    have hw : d.weight + 1 + PyData.weightAll ds ≤ a := by simpa only [PyData.weightAll] using h.wt
    have hs : short d = true ∧ shortAll ds = true := by simpa [shortAll] using h.sh
    have hi : d.intsShort 13 = true ∧ PyData.intsShortAll 13 ds = true := by simpa [PyData.intsShortAll] using h.ish
    have hv : d.showable = true ∧ PyData.showableAll ds = true := by simpa [PyData.showableAll] using h.shw
    have h1 : Ok n d.weight d := ⟨hl.1, Nat.le_trans (Nat.le_max_left _ _) hd, Nat.le_refl _, hs.1, hi.1, hv.1⟩
    have h2 : OkAll n (a - d.weight - 1) ds := ⟨hl.2, Nat.le_trans (Nat.le_max_right _ _) hd, by omega, hs.2, hi.2, hv.2⟩
    have h3 := OkAll.cons h1 (OkAll.app h2 t)
    exact ⟨h3.lay, h3.dep, Nat.le_trans h3.wt (by omega), h3.sh, h3.ish, h3.shw⟩
theorem OkAll.at {n m : Nat} : ∀ {ds : List PyData} {i : Nat} {d : PyData}, OkAll n m ds → ds[i]? = some d → Ok n m d
  | [], i, d, _, e => by simp at e
  | d :: ds, 0, d', h, e => by
    simp at e
    subst e
    have hl : d.canLay0 = true ∧ PyData.canLayAll0 ds = true := by simpa [PyData.canLayAll0] using h.lay
    have hd : max d.depth (PyData.depthAll ds) ≤ n := by simpa only [PyData.depthAll] using h.dep
    have hw : d.weight + 1 + PyData.weightAll ds ≤ m := by simpa only [PyData.weightAll] using h.wt
    have hs : short d = true ∧ shortAll ds = true := by simpa [shortAll] using h.sh
    have hi : d.intsShort 13 = true ∧ PyData.intsShortAll 13 ds = true := by simpa [PyData.intsShortAll] using h.ish
    have hv : d.showable = true ∧ PyData.showableAll ds = true := by simpa [PyData.showableAll] using h.shw
    exact ⟨hl.1, Nat.le_trans (Nat.le_max_left _ _) hd, by omega, hs.1, hi.1, hv.1⟩
  | d :: ds, i + 1, d', h, e => by
    have hl : d.canLay0 = true ∧ PyData.canLayAll0 ds = true := by simpa [PyData.canLayAll0] using h.lay
    have hd : max d.depth (PyData.depthAll ds) ≤ n := by simpa only [PyData.depthAll] using h.dep
    have hw : d.weight + 1 + PyData.weightAll ds ≤ m := by simpa only [PyData.weightAll] using h.wt
    have hs : short d = true ∧ shortAll ds = true := by simpa [shortAll] using h.sh
    have hi : d.intsShort 13 = true ∧ PyData.intsShortAll 13 ds = true := by simpa [PyData.intsShortAll] using h.ish
    have hv : d.showable = true ∧ PyData.showableAll ds = true := by simpa [PyData.showableAll] using h.shw
    have h2 : OkAll n m ds := ⟨hl.2, Nat.le_trans (Nat.le_max_right _ _) hd, by omega, hs.2, hi.2, hv.2⟩
    exact OkAll.at (i := i) h2 (by simpa using e)
theorem Ok.str {n m : Nat} {z : Str} (hl : z.length ≤ m) (hm : z.length ≤ 1000) (hc : ∀ c ∈ z.cps.toList, c < 128) : Ok n m (.str z) := by
  refine ⟨?_, by simp [PyData.depth], by simp only [PyData.weight]; exact hl, by simp [short, hm], by simp [PyData.intsShort], by simp [PyData.showable]⟩
  simp only [PyData.canLay0, PyData.strOk]
  rw [← Array.all_toList, List.all_eq_true]
  intro c h
  have := hc c h
  exact decide_eq_true (by omega)
theorem Ok.none {n m : Nat} : Ok n m .none := ⟨rfl, by simp [PyData.depth], by simp [PyData.weight], rfl, rfl, rfl⟩
theorem Ok.bool {n m : Nat} (b : Bool) : Ok n m (.bool b) := ⟨rfl, by simp [PyData.depth], by simp [PyData.weight], rfl, rfl, rfl⟩
theorem Ok.seven {n m : Nat} (h : 3 ≤ m) : Ok n m (.int 7) := ⟨rfl, by simp [PyData.depth], Nat.le_trans (by decide +kernel) h, rfl, by decide +kernel, by decide +kernel⟩
theorem Ok.shownB {n m : Nat} {d : PyData} (h : Ok n m d) (hn : n ≤ 64) (hm : m ≤ 1000000) : shownB d := by
  have hd := h.dep
  have hw := h.wt
  have hl : PyData.layable0 d = true := by
    show (PyData.canLay0 d && decide (d.depth ≤ 64) && decide (d.weight ≤ 2 ^ 20)) = true
    rw [h.lay, decide_eq_true (show d.depth ≤ 64 by omega), decide_eq_true (show d.weight ≤ 2 ^ 20 by omega)]
    rfl
  exact ⟨h.shw, shaped_of h.lay (by omega), PyData.shown_fits_of_layable0 (B := 13) (by decide) (by decide) hl h.ish⟩
def asc (z : Str) : Bool := z.cps.toList.all fun c => decide (c < 128)
theorem asc_of {z : Str} (h : asc z = true) : ∀ c ∈ z.cps.toList, c < 128 := fun c hc => of_decide_eq_true (List.all_eq_true.mp h c hc)
theorem name_len {z : Str} (h : nameS z = true) : 1 ≤ z.length ∧ z.length ≤ 8 := by
  unfold nameS at h
  simp only [Bool.and_eq_true, decide_eq_true_eq] at h
  exact h.1
theorem name_asc {z : Str} (h : nameS z = true) : ∀ c ∈ z.cps.toList, c < 128 := fun c hc => by
  unfold nameS at h
  simp only [Bool.and_eq_true] at h
  exact low128 (List.all_eq_true.mp h.2.1 c hc)
theorem up_ok {n m : Nat} {z : Str} (hl : z.length ≤ m) (hm : z.length ≤ 1000) (hc : ∀ c ∈ z.cps.toList, c < 128) : Ok n m (.str (PySem.Txt.upper z)) := by
  have e := PyProof.Rows.upper_ascii hc
  refine .str ?_ ?_ ?_
  · rw [e]; show (z.cps.map _).size ≤ m; rw [Array.size_map]; exact hl
  · rw [e]; show (z.cps.map _).size ≤ 1000; rw [Array.size_map]; exact hm
  · rw [e]
    intro c h
    have h' : c ∈ (z.cps.map PyProof.Rows.up1).toList := h
    rw [Array.toList_map, List.mem_map] at h'
    obtain ⟨d, hd, rfl⟩ := h'
    have := hc d hd
    unfold PyProof.Rows.up1
    split <;> omega
theorem cat_ok {n m : Nat} {x y : Str} (hl : x.length + y.length ≤ m) (hm : x.length + y.length ≤ 1000) (hx : ∀ c ∈ x.cps.toList, c < 128) (hy : ∀ c ∈ y.cps.toList, c < 128) : Ok n m (.str (x ++ y)) := by
  have e : (x ++ y).length = x.length + y.length := by rw [← len_tl, tl_app, List.length_append, len_tl, len_tl]
  refine .str (by omega) (by omega) fun c hc => ?_
  rw [tl_app, List.mem_append] at hc
  exact hc.elim (hx c) (hy c)
def Kd.els : Kd → List PyData
  | .num => [.str "number"]
  | .tru => [.str "truth"]
  | .rcd z => [.str "record", .str z]
  | .lst k => [.str "list", k.d]
theorem kd_d (k : Kd) : k.d = .tuple k.els := by cases k <;> simp [Kd.d, Kd.els]
theorem lit_ok {n m : Nat} {z : Str} (h : asc z = true) (hl : z.length ≤ 1000) (hm : z.length ≤ m) : Ok n m (.str z) := .str hm hl (asc_of h)
theorem els_ok : ∀ {k : Kd}, k.ok → OkAll k.deep (16 + 6 * k.deep) k.els
  | .num, _ => (OkAll.cons (n := 0) (a := 6) (b := 9) (lit_ok (by decide +kernel) (by decide) (by decide)) .nil)
  | .tru, _ => (OkAll.cons (n := 0) (a := 6) (b := 9) (lit_ok (by decide +kernel) (by decide) (by decide)) .nil)
  | .rcd z, h => (OkAll.cons (n := 0) (a := 6) (b := 9) (lit_ok (by decide +kernel) (by decide) (by decide)) (OkAll.cons (a := 8) (b := 0) (.str (name_len h).2 (by have := (name_len h).2; omega) (name_asc h)) .nil))
  | .lst k, h => by
    have ih := els_ok (k := k) h
    have hk : Ok (k.deep + 1) (16 + 6 * k.deep) k.d := by
      rw [kd_d]
      exact .tup ih (by cases k <;> simp [Kd.els])
    have c := OkAll.cons (n := k.deep + 1) (a := 4) (lit_ok (z := "list") (by decide +kernel) (by decide) (by decide)) (OkAll.cons (b := 0) hk .nil)
    have e : 4 + 1 + (16 + 6 * k.deep + 1 + 0) = 16 + 6 * (k.deep + 1) := by omega
    rw [e] at c
    exact c
theorem els_len (k : Kd) : 1 ≤ k.els.length ∧ k.els.length ≤ 2 := by cases k <;> simp [Kd.els]
theorem kd_ok {k : Kd} (h : k.ok) (hd : k.deep ≤ 8) : Ok 9 64 k.d := by
  rw [kd_d]
  have := els_len k
  exact (Ok.tup (els_ok h) (by omega)).mono (by omega) (by omega)
end K16
set_option Elab.async false
set_option linter.all false
set_option maxRecDepth 100000
set_option maxHeartbeats 4000000
namespace K16
open PySem PySem.Spec PyProof.Rows L2
open C8 (Cal Def cal0 pe_c fnBody fnScope fnArgs)
/-! ### what a term is -/
def leafW (u : Str) : Bool := inV (.str u) [.str "number", .str "truth", .str "name", .str "box", .str "empty"]
def numB : PyData → Bool
  | .int i => decide (0 ≤ i) && decide (i < 1000000000000)
  | _ => false
def leafB (u : Str) (d : PyData) : Bool := if u == "number" then numB d else if u == "truth" then isB d else if u == "empty" then kindB d else nameB d
def counts : List (Str × Int) := [("add", 2), ("less", 2), ("times", 2), ("under", 2), ("same", 2), ("both", 2), ("join", 2), ("not", 1), ("many", 1), ("pick", 3), ("at", 3)]
/-- of a tuple: its first a word, what stands behind it -/
def shapedW (u : Str) (rest : List PyData) : Bool :=
  if leafW u then decide (rest.length = 1) && (rest[0]?.map (leafB u)).getD false
  else if u == "field" then decide (rest.length = 2) && (rest[1]?.map nameB).getD false
  else if u == "list" then decide (rest.length ≤ 8)
  else match counts.lookup u with
    | some c => decide ((rest.length : Int) = c)
    | none => false
def shapedB : PyData → Bool
  | .tuple (.str u :: rest) => decide (1 ≤ rest.length) && shapedW u rest
  | _ => false
/-- the places of the terms right within -/
def selW {α : Type} (u : Str) (rest : List α) : List α := if leafW u then [] else if u == "field" then rest.take 1 else rest
def partsD : PyData → List PyData
  | .tuple (.str u :: rest) => selW u rest
  | _ => []
mutual
def termB : PyData → Bool
  | .tuple ds => shapedB (.tuple ds) && ((match ds with | .str u :: _ => selW u ((termL ds).drop 1) | _ => []).all id)
  | _ => false
def termL : List PyData → List Bool
  | [] => []
  | x :: xs => termB x :: termL xs
end
theorem termL_map : ∀ ds : List PyData, termL ds = ds.map termB
  | [] => by simp [termL]
  | x :: xs => by simp [termL, termL_map xs]
theorem selW_map {α β : Type} (f : α → β) (u : Str) (l : List α) : selW u (l.map f) = (selW u l).map f := by
  unfold selW
  split
  · rfl
  · split
    · rw [List.map_take]
    · rfl
theorem termB_eq (d : PyData) : termB d = (shapedB d && (partsD d).all termB) := by
  cases d with
  | tuple ds =>
    cases ds with
    | nil => simp [termB, shapedB]
    | cons x rest =>
      cases x with
      | str u =>
        rw [termB, termL_map]
        show (shapedB (.tuple (.str u :: rest)) && (selW u (rest.map termB)).all id) = (shapedB (.tuple (.str u :: rest)) && (selW u rest).all termB)
        rw [selW_map, List.all_map]
        rfl
      | _ => simp [termB, shapedB]
  | _ => simp [termB, shapedB]
theorem sel_len {α : Type} (u : Str) (l : List α) : (selW u l).length ≤ l.length := by
  unfold selW
  split
  · exact Nat.zero_le _
  · split
    · rw [List.length_take]; omega
    · exact Nat.le_refl _
section
variable {K : PySem.W.Frag}
theorem dpAll_take {H : Hp} : ∀ {vs : List V} {ds : List PyData} (n : Nat), DpAll K H vs ds → DpAll K H (vs.take n) (ds.take n)
  | _, _, 0, _ => by rw [List.take_zero, List.take_zero]; exact .nil
  | _, _, _ + 1, .nil => .nil
  | _, _, n + 1, .cons h t => .cons h (dpAll_take n t)
theorem sel_dp {H : Hp} {vs : List V} {ds : List PyData} (u : Str) (h : DpAll K H vs ds) : DpAll K H (selW u vs) (selW u ds) := by
  unfold selW
  split
  · exact .nil
  · split
    · exact dpAll_take 1 h
    · exact h
end
def counts2 : List (Str × Int) := counts ++ ([("field", 1)] : List (Str × Int))
theorem counts2_of {u : Str} (h : (u == ("field" : Str)) = false) : counts2.lookup u = counts.lookup u := by
  unfold counts2
  rw [List.lookup_append]
  have : List.lookup u [(("field" : Str), (1 : Int))] = none := by simp [List.lookup, h]
  rw [this, Option.or_none]
section
variable {P : Program} {w : World} {K : PySem.W.Frag} {mg : Str → Option Value} {base : Heap}
abbrev sPIsNumber : Stmt := topS 8
abbrev NPIsNumber : List Str := ["thing"]
theorem scPIsNumber : FnScope NPIsNumber ["thing"] (fnScope sPIsNumber) := ⟨rfl, rfl, rfl, by decide +kernel, rfl, by decide +kernel, by decide +kernel⟩
/-- a truth of data told, all stays -/
def spSee (K : PySem.W.Frag) (g : PyData → Bool) : Sp := fun vs H Q _ => ∃ v d, vs = [v] ∧ Dp K H v d ∧ ∀ H', Same H H' → Q (.bl (g d)) H'
theorem c_isNumber (T : Tp mg) {f : Addr} {fd : FuncData} (D : Def K mg "is_number" sPIsNumber f fd) (b : Binds K fd ["thing"] []) : Cal P w K mg base 1 "is_number" (spSee K numB) [] := by
  refine cal0 D b .nil scPIsNumber (fun vs H Q E h => ?_) (fun cdv A outer s H vs Q E hr h => ?_)
  · obtain ⟨v, d, rfl, _⟩ := h
    rfl
  · obtain ⟨v, d, rfl, hd, q⟩ := h
    refine ⟨_, (pss_one (ps_ret (pe_and (pe_callB call_isD (by rfl) T.n_isinstance (by decide +kernel) (pa_cons (pv 0) (pa_cons (pe_bltn (v := .ty "int") (by rfl) T.n_int (by decide +kernel) rfl) pa_nil))) (pe_and (pe_not (pe_callB call_isD (by rfl) T.n_isinstance (by decide +kernel) (pa_cons (pv 0) (pa_cons (pe_bltn (v := .ty "bool") (by rfl) T.n_bool (by decide +kernel) rfl) pa_nil)))) (pe_one (pe_chain op_le op_lt pe_int (pv 0) (C8.pe_gc (by rfl) T.g_NUMBERS))))))), ?_⟩
    have q0 := q H (Same.refl H)
    refine ⟨_, rfl, v, d, "int", rfl, hd, by decide, _, rfl, ?_⟩
    cases hd with
    | int i =>
      refine iteT ?_
      refine ⟨_, rfl, _, _, "bool", rfl, .int i, by decide, _, rfl, _, rfl, iteT ?_⟩
      refine ⟨_, rfl, _, _, rfl, rfl, _, rfl, ite2 (fun e => ?_) (fun e => ?_)⟩
      · refine ⟨_, _, rfl, rfl, ?_⟩
        have e1 : numB (.int i) = decide (i < 1000000000000) := by
          show (decide (0 ≤ i) && decide (i < 1000000000000)) = _
          rw [e, Bool.true_and]
        rw [e1] at q0
        exact q0
      · have e1 : numB (.int i) = false := by
          show (decide (0 ≤ i) && decide (i < 1000000000000)) = _
          rw [eq_false_of_ne_true e, Bool.false_and]
        rw [e1] at q0
        exact q0
    | bl bb =>
      refine iteT ?_
      exact ⟨_, rfl, _, _, "bool", rfl, .bl bb, by decide, _, rfl, _, rfl, iteF q0⟩
    | _ => exact iteF q0
abbrev sPIsLeafPart : Stmt := topS 15
abbrev NPIsLeafPart : List Str := ["word", "part"]
theorem scPIsLeafPart : FnScope NPIsLeafPart ["word", "part"] (fnScope sPIsLeafPart) := ⟨rfl, rfl, rfl, by decide +kernel, rfl, by decide +kernel, by decide +kernel⟩
def spLeafPart (K : PySem.W.Frag) : Sp := fun vs H Q _ => ∃ u v d, vs = [.str u, v] ∧ Dp K H v d ∧ short d = true ∧ ∀ H', Same H H' → Q (.bl (leafB u d)) H'
theorem c_isLeafPart (T : Tp mg) (c_PIsNumber : Cal P w K mg base 1 "is_number" (spSee K numB) []) (c_PIsKind : Cal P w K mg base 2 "is_kind" (spLook K kindB) []) (c_PIsName : Cal P w K mg base 1 "is_name" (spLook K nameB) [])
    {f : Addr} {fd : FuncData} (D : Def K mg "_is_leaf_part" sPIsLeafPart f fd) (b : Binds K fd ["word", "part"] []) : Cal P w K mg base 3 "_is_leaf_part" (spLeafPart K) [] := by
  refine cal0 D b .nil scPIsLeafPart (fun vs H Q E h => ?_) (fun cdv A outer s H vs Q E hr h => ?_)
  · obtain ⟨u, v, d, rfl, _⟩ := h
    rfl
  · obtain ⟨u, v, d, rfl, hd, hs, q⟩ := h
    refine ⟨_, (pss_cons (ps_if (pt_cmpR op_eq (pv 0) pe_str (nomark _))
      (pss_one (ps_ret (pe_c c_PIsNumber hr (by decide) (by rfl) (pa_cons (pv 1) pa_nil))))
      pss_nil)
    (pss_cons (ps_if (pt_cmpR op_eq (pv 0) pe_str (nomark _))
      (pss_one (ps_ret (pe_callB call_isD (by rfl) T.n_isinstance (by decide +kernel) (pa_cons (pv 1) (pa_cons (pe_bltn (v := .ty "bool") (by rfl) T.n_bool (by decide +kernel) rfl) pa_nil)))))
      pss_nil)
    (pss_cons (ps_if (pt_cmpR op_eq (pv 0) pe_str (nomark _))
      (pss_one (ps_ret (pe_c c_PIsKind hr (by decide) (by rfl) (pa_cons (pv 1) pa_nil))))
      pss_nil)
    (pss_one (ps_ret (pe_c c_PIsName hr (by decide) (by rfl) (pa_cons (pv 1) pa_nil))))))), ?_⟩
    unfold leafB at q
    refine ⟨_, rfl, rfl, _, rfl, ?_⟩
    rw [dec_str]
    refine ite2 (fun e => ?_) (fun e => ?_)
    · rw [if_pos e] at q
      exact ⟨_, rfl, v, d, rfl, hd, q⟩
    · rw [if_neg e] at q
      refine ⟨_, rfl, rfl, _, rfl, ?_⟩
      rw [dec_str]
      refine ite2 (fun e => ?_) (fun e => ?_)
      · rw [if_pos e] at q
        exact ⟨_, rfl, v, d, "bool", rfl, hd, by decide, q H (Same.refl H)⟩
      · rw [if_neg e] at q
        refine ⟨_, rfl, rfl, _, rfl, ?_⟩
        rw [dec_str]
        refine ite2 (fun e => ?_) (fun e => ?_)
        · rw [if_pos e] at q
          exact ⟨_, rfl, v, d, rfl, hd, hs, q⟩
        · rw [if_neg e] at q
          exact ⟨_, rfl, v, d, rfl, hd, hs, q⟩
end
end K16
set_option Elab.async false
set_option linter.all false
set_option maxRecDepth 100000
set_option maxHeartbeats 4000000
namespace K16
open PySem PySem.Spec PyProof.Rows L2
open C8 (Cal Def cal0 pe_c fnBody fnScope fnArgs)
/-- the leaves' words, as the module has them -/
structure Lv (K : PySem.W.Frag) (mg : Str → Option Value) (aL : Addr) : Prop where
  g : ∃ u, mg "LEAVES" = some u ∧ RelV (.ref aL) u
  sq : ∀ H, SqT K H aL [.str "number", .str "truth", .str "name", .str "box", .str "empty"]
/-- the counts, as the module has them -/
structure Ct (K : PySem.W.Frag) (w : World) (mg : Str → Option Value) (aC : Addr) (es : Array DictEntry) (n : Nat) (cs : List (Str × V)) : Prop where
  g : ∃ u, mg "SORTS" = some u ∧ RelV (.ref aC) u
  d : KDict K w aC es n
  ent : EntsV es.toList cs
  tps : TupsOf K cs counts2
section
variable {P : Program} {w : World} {K : PySem.W.Frag} {mg : Str → Option Value} {base : Heap}
theorem dpAll_head {H : Hp} {xs : List V} {x : PyData} {rest : List PyData} (h : DpAll K H xs (x :: rest)) : ∃ v vr, xs = v :: vr ∧ Dp K H v x ∧ DpAll K H vr rest := by
  cases h with
  | cons a b => exact ⟨_, _, rfl, a, b⟩
theorem head_of {ds : List PyData} (h : 2 ≤ ds.length) : ∃ x rest, ds = x :: rest ∧ 1 ≤ rest.length := by
  cases ds with
  | nil => exact absurd h (by decide)
  | cons x rest => exact ⟨x, rest, rfl, by simp at h; omega⟩
theorem short_mem {ds : List PyData} : ∀ {i : Nat} {d : PyData}, shortAll ds = true → ds[i]? = some d → short d = true := by
  induction ds with
  | nil => intro i d _ h; simp at h
  | cons x xs ih =>
    intro i d h e
    have h' : short x = true ∧ shortAll xs = true := by simpa [shortAll] using h
    cases i with
    | zero => simp at e; rw [← e]; exact h'.1
    | succ i => exact ih h'.2 (by simpa using e)
theorem at_some {α : Type} {l : List α} {i : Nat} (h : i < l.length) : ∃ x, l[i]? = some x := ⟨_, List.getElem?_eq_getElem h⟩
abbrev sPIsShaped : Stmt := topS 14
abbrev NPIsShaped : List Str := ["thing", "word"]
theorem scPIsShaped : FnScope NPIsShaped ["thing"] (fnScope sPIsShaped) := ⟨rfl, rfl, rfl, by decide +kernel, rfl, by decide +kernel, by decide +kernel⟩
theorem c_isShaped (T : Tp mg) {aL aC : Addr} {es : Array DictEntry} {nE : Nat} {cs : List (Str × V)} (TL : Lv K mg aL) (TC : Ct K w mg aC es nE cs) (c_PIsLeafPart : Cal P w K mg base 3 "_is_leaf_part" (spLeafPart K) []) (c_PIsName : Cal P w K mg base 1 "is_name" (spLook K nameB) [])
    {f : Addr} {fd : FuncData} (D : Def K mg "_is_shaped" sPIsShaped f fd) (b : Binds K fd ["thing"] []) : Cal P w K mg base 4 "_is_shaped" (spLook K shapedB) [] := by
  refine cal0 D b .nil scPIsShaped (fun vs H Q E h => ?_) (fun cdv A outer s H vs Q E hr h => ?_)
  · obtain ⟨v, d, rfl, _⟩ := h
    rfl
  · obtain ⟨v, d, rfl, hd, hs, q⟩ := h
    have nd := scPIsShaped.nd
    refine ⟨_, (pss_cons (ps_if (PW.pt (pw_or (pt_not (pt_val (pe_callB call_isD (by rfl) T.n_isinstance (by decide +kernel) (pa_cons (pv 0) (pa_cons (pe_bltn (v := .ty "tuple") (by rfl) T.n_tuple (by decide +kernel) rfl) pa_nil))))) (pw_or (pt_cmpR op_lt (pe_callB call_len_seq (by rfl) T.n_len (by decide +kernel) (pa_cons (pv 0) pa_nil)) pe_int (nomark _)) (pw_or1 (pt_not (pt_val (pe_callB call_isD (by rfl) T.n_isinstance (by decide +kernel) (pa_cons (pe_ix ix_tup (pv 0) pe_int (fun _ _ => rfl)) (pa_cons (pe_bltn (v := .ty "str") (by rfl) T.n_str (by decide +kernel) rfl) pa_nil)))))))))
      (pss_one (ps_ret pe_bl))
      pss_nil)
    (pss_cons (ps_set (i := 1) nd rfl (.inl rfl) (pe_ix ix_tup (pv 0) pe_int (fun _ _ => rfl)))
    (pss_cons (ps_if (pt_cmpR op_in_seq (pv 1) (C8.pe_gc (by rfl) TL.g) (by rfl))
      (pss_one (ps_ret (pe_and (pe_cmpR op_eq (pe_callB call_len_seq (by rfl) T.n_len (by decide +kernel) (pa_cons (pv 0) pa_nil)) pe_int (nomark _)) (pe_one (pe_c c_PIsLeafPart hr (by decide) (by rfl) (pa_cons (pv 1) (pa_cons (pe_ix ix_tup (pv 0) pe_int (fun _ _ => rfl)) pa_nil)))))))
      pss_nil)
    (pss_cons (ps_if (pt_cmpR op_eq (pv 1) pe_str (nomark _))
      (pss_one (ps_ret (pe_and (pe_cmpR op_eq (pe_callB call_len_seq (by rfl) T.n_len (by decide +kernel) (pa_cons (pv 0) pa_nil)) pe_int (nomark _)) (pe_one (pe_c c_PIsName hr (by decide) (by rfl) (pa_cons (pe_ix ix_tup (pv 0) pe_int (fun _ _ => rfl)) pa_nil))))))
      pss_nil)
    (pss_cons (ps_if (pt_cmpR op_eq (pv 1) pe_str (nomark _))
      (pss_one (ps_ret (pe_cmpR op_le (pe_callB call_len_seq (by rfl) T.n_len (by decide +kernel) (pa_cons (pv 0) pa_nil)) (pe_op op_add pe_int (C8.pe_gc (by rfl) T.g_MOST_LISTED)) (nomark _))))
      pss_nil)
    (pss_one (ps_ret (pe_and (pe_cmpR (op_in_kd TC.d) (pv 1) (C8.pe_gc (by rfl) TC.g) (by rfl)) (pe_one (pe_cmpR op_eq (pe_callB call_len_seq (by rfl) T.n_len (by decide +kernel) (pa_cons (pv 0) pa_nil)) (pe_op op_add pe_int (pe_callB call_len_seq (by rfl) T.n_len (by decide +kernel) (pa_cons (pe_ix ix_kdict (C8.pe_gc (by rfl) TC.g) (pv 1) (fun _ _ => rfl)) pa_nil))) (nomark _))))))))))), ?_⟩
    have q0 := q H (Same.refl H)
    refine ⟨_, rfl, v, d, "tuple", rfl, hd, by decide, _, rfl, ?_⟩
    cases hd with
    | @tup a xs ds hq ha =>
      refine iteF ?_
      have hlen := ha.len
      refine ⟨_, rfl, a, xs, rfl, .inr hq, _, _, rfl, rfl, _, rfl, ite2 (fun e => ?_) (fun e => ?_)⟩
      · have e1 : ((xs.length : Nat) : Int) < 2 := of_decide_eq_true e
        have hf : shapedB (.tuple ds) = false := by
          cases ds with
          | nil => rfl
          | cons x rest =>
            cases rest with
            | nil => cases x <;> rfl
            | cons y r => simp at hlen; omega
        rw [hf] at q0
        exact iteT q0
      · have e1 : ¬ ((xs.length : Nat) : Int) < 2 := fun h => e (decide_eq_true h)
        obtain ⟨x, rest, rfl, hr1⟩ := head_of (show 2 ≤ ds.length by omega)
        obtain ⟨v0, vr, rfl, h0, hrd⟩ := dpAll_head ha
        have hvr : vr.length = rest.length := hrd.len
        have hsa := (short_all hs).2
        have hsr : shortAll rest = true := by
          have h' : short x = true ∧ shortAll rest = true := by simpa [shortAll] using hsa
          exact h'.2
        refine ⟨_, rfl, a, _, _, v0, rfl, rfl, hq, atI_nat (j := 0) rfl, v0, x, "str", rfl, h0, by decide, _, rfl, ?_⟩
        cases h0 with
        | str u =>
          refine iteF ?_
          refine ⟨_, rfl, a, _, _, .str u, rfl, rfl, hq, atI_nat (j := 0) rfl, ?_⟩
          have qw : ∀ H', Same H H' → Q (.bl (shapedW u rest)) H' := fun H' s' => by
            have q1 := q H' s'
            have ee : shapedB (.tuple (.str u :: rest)) = shapedW u rest := by
              show (decide (1 ≤ rest.length) && shapedW u rest) = _
              rw [decide_eq_true hr1, Bool.true_and]
            rw [ee] at q1
            exact q1
          unfold shapedW at qw
          refine ⟨_, rfl, aL, _, rfl, .inr (TL.sq H), rfl, rfl, _, rfl, ?_⟩
          show if (leafW u) = true then _ else _
          refine ite2 (fun e2 => ?_) (fun e2 => ?_)
          · rw [if_pos e2] at qw
            refine ⟨_, rfl, a, _, rfl, .inr hq, rfl, _, rfl, ite2 (fun e3 => ?_) (fun e3 => ?_)⟩
            · have e4 : rest.length = 1 := by
                have := V.int.inj (of_decide_eq_true e3)
                simp at this
                omega
              rw [decide_eq_true e4, Bool.true_and] at qw
              obtain ⟨r0, rfl⟩ := one_of e4
              obtain ⟨v1, rfl, h1⟩ := hrd.one
              refine ⟨_, rfl, _, rfl, a, _, _, v1, rfl, rfl, hq, atI_nat (j := 1) rfl, u, v1, r0, rfl, h1, short_mem (i := 0) hsr rfl, qw⟩
            · have e4 : ¬ rest.length = 1 := fun h => e3 (decide_eq_true (by rw [List.length_cons, hvr, h]; rfl))
              have q1 := qw H (Same.refl H)
              rw [decide_eq_false e4, Bool.false_and] at q1
              exact q1
          · rw [if_neg e2] at qw
            refine ⟨_, rfl, rfl, _, rfl, ?_⟩
            rw [dec_str]
            refine ite2 (fun e3 => ?_) (fun e3 => ?_)
            · rw [if_pos e3] at qw
              refine ⟨_, rfl, a, _, rfl, .inr hq, rfl, _, rfl, ite2 (fun e4 => ?_) (fun e4 => ?_)⟩
              · have e5 : rest.length = 2 := by
                  have := V.int.inj (of_decide_eq_true e4)
                  simp at this
                  omega
                rw [decide_eq_true e5, Bool.true_and] at qw
                obtain ⟨r0, r1, rfl⟩ := two_of e5
                obtain ⟨v1, v2, rfl, h1, h2⟩ := hrd.two
                refine ⟨_, rfl, a, _, _, v2, rfl, rfl, hq, atI_nat (j := 2) rfl, v2, r1, rfl, h2, short_mem (i := 1) hsr rfl, qw⟩
              · have e5 : ¬ rest.length = 2 := fun h => e4 (decide_eq_true (by rw [List.length_cons, hvr, h]; rfl))
                have q1 := qw H (Same.refl H)
                rw [decide_eq_false e5, Bool.false_and] at q1
                exact q1
            · rw [if_neg e3] at qw
              refine ⟨_, rfl, rfl, _, rfl, ?_⟩
              rw [dec_str]
              refine ite2 (fun e4 => ?_) (fun e4 => ?_)
              · rw [if_pos e4] at qw
                refine ⟨_, rfl, a, _, rfl, .inr hq, _, _, rfl, rfl, _, _, rfl, rfl, ?_⟩
                have q1 := qw H (Same.refl H)
                have ee : decide (((V.str u :: vr).length : Int) ≤ 1 + 8) = decide (rest.length ≤ 8) := by
                  rw [Bool.eq_iff_iff, decide_eq_true_eq, decide_eq_true_eq, List.length_cons]
                  omega
                show Q (.bl (decide (((V.str u :: vr).length : Int) ≤ 1 + 8))) H
                rw [ee]
                exact q1
              · rw [if_neg e4] at qw
                have q1 := qw H (Same.refl H)
                have e3f : (u == ("field" : Str)) = false := by
                  cases hh : (u == ("field" : Str)) with
                  | false => rfl
                  | true => exact absurd hh e3
                rcases tupsOf TC.tps u with ⟨pt, xt, c, t1, t2, t3, t4⟩ | ⟨t1, t3⟩
                · rcases nsIn_cv TC.d.at_ TC.ent u with ⟨v', uu, hl, hns, rel⟩ | ⟨hl, hns⟩
                  · rw [t1] at hl
                    cases hl
                    rw [counts2_of e3f] at t3
                    rw [t3] at q1
                    refine ⟨_, rfl, u, some uu, rfl, rfl, hns, _, rfl, iteT ?_⟩
                    refine ⟨_, rfl, a, _, rfl, .inr hq, _, rfl, aC, u, .ref pt, rfl, rfl, ⟨es, nE, uu, TC.d.at_, TC.d.lit, hns, rel⟩, pt, xt, rfl, .inr (t2 _), _, _, rfl, rfl, rfl, ?_⟩
                    have ee : decide (V.int ((V.str u :: vr).length : Int) = V.int (1 + (xt.length : Int))) = decide ((rest.length : Int) = c) := by
                      rw [Bool.eq_iff_iff, decide_eq_true_eq, decide_eq_true_eq]
                      constructor
                      · intro h
                        have := V.int.inj h
                        rw [List.length_cons] at this
                        omega
                      · intro h
                        rw [List.length_cons, hvr]
                        exact congrArg V.int (by omega)
                    show Q (.bl (decide (V.int ((V.str u :: vr).length : Int) = V.int (1 + (xt.length : Int))))) H
                    rw [ee]
                    exact q1
                  · rw [t1] at hl
                    cases hl
                · rcases nsIn_cv TC.d.at_ TC.ent u with ⟨v', uu, hl, hns, rel⟩ | ⟨hl, hns⟩
                  · rw [t1] at hl
                    cases hl
                  · rw [counts2_of e3f] at t3
                    rw [t3] at q1
                    exact ⟨_, rfl, u, none, rfl, rfl, hns, _, rfl, iteF q1⟩
        | _ =>
          have q1 : Q (V.bl false) H := by simpa [shapedB] using q0
          exact iteT q1
    | _ => exact iteT q0
abbrev sPPartsOf : Stmt := topS 16
abbrev NPPartsOf : List Str := ["term"]
theorem scPPartsOf : FnScope NPPartsOf ["term"] (fnScope sPPartsOf) := ⟨rfl, rfl, rfl, by decide +kernel, rfl, by decide +kernel, by decide +kernel⟩
/-- of a tuple that begins with a word: a new list of the things at the places of its terms -/
def spParts (K : PySem.W.Frag) : Sp := fun vs H Q _ => ∃ a u vr, vs = [.ref a] ∧ SqT K H a (.str u :: vr) ∧ 1 ≤ vr.length ∧ vr.length ≤ 1000 ∧ ∀ l H', H l = none → Same H H' → H' l = some (.lst (selW u vr)) → Q (.ref l) H'
theorem slice_tail {H : Hp} {a : Addr} {x : V} {vr : List V} {Q : V → Hp → Prop} (hq : SqT K H a (x :: vr)) (q : ∀ p, H p = none → Q (.ref p) (upd H p (.tup vr))) : (rSlA K) (.ref a) (some 1) none H Q := by
  have hs1 : HT.sIx (x :: vr).length 0 (some 1) = 1 := by
    rw [show HT.sIx (x :: vr).length 0 (some 1) = min 1 (x :: vr).length from HT.sIx_nat (x :: vr).length 0 1, List.length_cons]
    omega
  have ec : cutV (x :: vr) (some 1) none = vr := by
    unfold cutV
    rw [hs1, HT.sIx_none]
    exact List.take_of_length_le (by simp)
  refine ⟨a, x :: vr, rfl, hq, fun h => ?_, fun _ p hp => ?_⟩
  · rw [hs1] at h
    exact absurd h.1 (by decide)
  · rw [ec]
    exact q p hp
theorem c_partsOf (T : Tp mg) {aL : Addr} (TL : Lv K mg aL) {f : Addr} {fd : FuncData} (D : Def K mg "parts_of" sPPartsOf f fd) (b : Binds K fd ["term"] []) : Cal P w K mg base 1 "parts_of" (spParts K) [] := by
  refine cal0 D b .nil scPPartsOf (fun vs H Q E h => ?_) (fun cdv A outer s H vs Q E hr h => ?_)
  · obtain ⟨a, u, vr, rfl, _⟩ := h
    rfl
  · obtain ⟨a, u, vr, rfl, hq, h1, h2, q⟩ := h
    refine ⟨_, (pss_cons (ps_if (pt_cmpR op_in_seq (pe_ix ix_tup (pv 0) pe_int (fun _ _ => rfl)) (C8.pe_gc (by rfl) TL.g) (by rfl))
      (pss_one (ps_ret (pe_lst pa_nil)))
      pss_nil)
    (pss_cons (ps_if (pt_cmpR op_eq (pe_ix ix_tup (pv 0) pe_int (fun _ _ => rfl)) pe_str (nomark _))
      (pss_one (ps_ret (pe_lst (pa_cons (pe_ix ix_tup (pv 0) pe_int (fun _ _ => rfl)) pa_nil))))
      pss_nil)
    (pss_one (ps_ret (pe_callTy call_list_of (by rfl) T.n_list (by decide +kernel) (pa_cons (pe_slice sl_tupA (pv 0) (po_some pe_int) po_none) pa_nil)))))), ?_⟩
    unfold selW at q
    refine ⟨_, rfl, a, _, _, .str u, rfl, rfl, hq, atI_nat (j := 0) rfl, aL, _, rfl, .inr (TL.sq H), rfl, rfl, _, rfl, ?_⟩
    show if (leafW u) = true then _ else _
    refine ite2 (fun e => ?_) (fun e => ?_)
    · rw [if_pos e] at q
      exact ⟨(by show 0 ≤ sizeLine; decide), fun l hl => q l _ hl (Same.new hl) upd_same⟩
    · rw [if_neg e] at q
      refine ⟨_, rfl, a, _, _, .str u, rfl, rfl, hq, atI_nat (j := 0) rfl, rfl, _, rfl, ?_⟩
      rw [dec_str]
      refine ite2 (fun e2 => ?_) (fun e2 => ?_)
      · rw [if_pos e2] at q
        cases vr with
        | nil => exact absurd h1 (by decide)
        | cons v1 vr2 =>
          refine ⟨_, rfl, a, _, _, v1, rfl, rfl, hq, atI_nat (j := 1) rfl, (by show 1 ≤ sizeLine; decide), fun l hl => q l _ hl (Same.new hl) upd_same⟩
      · rw [if_neg e2] at q
        refine ⟨_, rfl, 1, rfl, ?_⟩
        refine slice_tail (Q := fun x H1 => ∃ p ys, [x] = [V.ref p] ∧ (SqL K H1 p ys ∨ SqT K H1 p ys) ∧ ∀ l, H1 l = none → Q (V.ref l) (upd H1 l (.lst ys))) hq fun p hp => ⟨p, vr, rfl, .inr (SqT.of upd_same), fun l hl => ?_⟩
        exact q l _ ((Same.new hp).free hl) ((Same.new hp).trans (Same.new hl)) upd_same

/-! ### is_term -/
theorem weightAll_app : ∀ (xs ys : List PyData), PyData.weightAll (xs ++ ys) = PyData.weightAll xs + PyData.weightAll ys
  | [], ys => by simp [PyData.weightAll]
  | x :: xs, ys => by
    rw [List.cons_append, PyData.weightAll, PyData.weightAll, weightAll_app xs ys]
    omega
theorem len_weightAll : ∀ xs : List PyData, xs.length ≤ PyData.weightAll xs
  | [] => Nat.zero_le _
  | x :: xs => by
    have := len_weightAll xs
    rw [PyData.weightAll, List.length_cons]
    omega
theorem weight_sel (u : Str) (l : List PyData) : PyData.weightAll (selW u l) ≤ PyData.weightAll l := by
  unfold selW
  split
  · simp [PyData.weightAll]
  · split
    · cases l with
      | nil => simp [PyData.weightAll]
      | cons x r => simp only [List.take, PyData.weightAll]; omega
    · exact Nat.le_refl _
theorem weight_parts (d : PyData) : PyData.weightAll (partsD d) ≤ d.weight := by
  cases d with
  | tuple ds =>
    cases ds with
    | nil => simp [partsD, PyData.weightAll]
    | cons x rest =>
      cases x with
      | str u =>
        have := weight_sel u rest
        show PyData.weightAll (selW u rest) ≤ (PyData.tuple (.str u :: rest)).weight
        rw [PyData.weight, PyData.weightAll]
        omega
      | _ => simp [partsD, PyData.weightAll]
  | _ => simp [partsD, PyData.weightAll]
theorem shaped_form {d : PyData} (h : shapedB d = true) : ∃ u rest, d = .tuple (.str u :: rest) ∧ 1 ≤ rest.length := by
  unfold shapedB at h
  split at h
  · rename_i u rest
    rw [Bool.and_eq_true] at h
    exact ⟨u, rest, rfl, of_decide_eq_true h.1⟩
  · cases h
theorem short_sel {u : Str} {l : List PyData} (h : shortAll l = true) : shortAll (selW u l) = true := by
  unfold selW
  split
  · rfl
  · split
    · cases l with
      | nil => rfl
      | cons x r =>
        have h' : short x = true ∧ shortAll r = true := by simpa [shortAll] using h
        simp [List.take, shortAll, h'.1]
    · exact h
theorem shortAll_app : ∀ {xs ys : List PyData}, shortAll xs = true → shortAll ys = true → shortAll (xs ++ ys) = true
  | [], _, _, h => h
  | x :: xs, _, h, h2 => by
    have h' : short x = true ∧ shortAll xs = true := by simpa [shortAll] using h
    simp only [List.cons_append, shortAll, h'.1, shortAll_app h'.2 h2, Bool.and_self]
theorem shortAll_init : ∀ {xs ys : List PyData}, shortAll (xs ++ ys) = true → shortAll xs = true
  | [], _, _ => rfl
  | x :: xs, ys, h => by
    have h' : short x = true ∧ shortAll (xs ++ ys) = true := by simpa [shortAll] using h
    simp only [shortAll, h'.1, shortAll_init h'.2, Bool.and_self]
theorem split_last {α : Type} {l : List α} (h : l ≠ []) : ∃ i x, l = i ++ [x] := ⟨l.dropLast, l.getLast h, (List.dropLast_concat_getLast h).symm⟩
theorem dpAll_split {H : Hp} {vs : List V} {xs : List PyData} {x : PyData} (h : DpAll K H vs (xs ++ [x])) : ∃ us v, vs = us ++ [v] ∧ DpAll K H us xs ∧ Dp K H v x := by
  induction xs generalizing vs with
  | nil =>
    obtain ⟨u, rfl, g⟩ := DpAll.one h
    exact ⟨[], u, rfl, .nil, g⟩
  | cons y ys ih =>
    obtain ⟨v0, vr, rfl, g, gr⟩ := dpAll_head h
    obtain ⟨us, v, rfl, g1, g2⟩ := ih gr
    exact ⟨v0 :: us, v, rfl, .cons g g1, g2⟩
abbrev sPIsTerm : Stmt := topS 13
abbrev NPIsTerm : List Str := ["thing", "todo", "one"]
theorem scPIsTerm : FnScope NPIsTerm ["thing"] (fnScope sPIsTerm) := ⟨rfl, rfl, rfl, by decide +kernel, rfl, by decide +kernel, by decide +kernel⟩
def spTerm (K : PySem.W.Frag) : Sp := fun vs H Q _ => ∃ v d, vs = [v] ∧ Dp K H v d ∧ short d = true ∧ d.weight ≤ 1000000 ∧ ∀ H', Same H H' → Q (.bl (termB d)) H'
theorem c_isTerm (c_PIsShaped : Cal P w K mg base 4 "_is_shaped" (spLook K shapedB) []) (c_PPartsOf : Cal P w K mg base 1 "parts_of" (spParts K) []) {f : Addr} {fd : FuncData} (D : Def K mg "is_term" sPIsTerm f fd) (b : Binds K fd ["thing"] []) :
    Cal P w K mg base 5 "is_term" (spTerm K) [] := by
  refine cal0 D b .nil scPIsTerm (fun vs H Q E h => ?_) (fun cdv A outer s H vs Q E hr h => ?_)
  · obtain ⟨v, d, rfl, _⟩ := h
    rfl
  · obtain ⟨v0, d0, rfl, hd, hs, hw, q⟩ := h
    have nd := scPIsTerm.nd
    refine ⟨_, (pss_cons (ps_set (i := 1) nd rfl (.inl rfl) (pe_lst (pa_cons (pv 0) pa_nil)))
    (pss_cons (ps_while PassesOwn.never (pt_truth (pv 1) (by intro _; rfl))
      (pss_cons (ps_set (i := 2) nd rfl (.inl rfl) (pe_bm0 PySem.F.plainAttrs_list PySem.F.slot_list_pop PySem.F.type_list_pop mt_pop (pv 1)))
    (pss_cons (ps_if (pt_not (pt_val (pe_c c_PIsShaped hr (by decide) (by rfl) (pa_cons (pv 2) pa_nil))))
      (pss_one (ps_ret pe_bl))
      pss_nil)
    (pss_one (ps_expr (pe_bm PySem.F.plainAttrs_list PySem.F.slot_list_extend PySem.F.type_list_extend mt_extend (pv 1) (pa_cons (pe_c c_PPartsOf hr (by decide) (by rfl) (pa_cons (pv 2) pa_nil)) pa_nil)))))))
    (pss_one (ps_ret pe_bl)))), ?_⟩
    refine ⟨_, rfl, (by show 1 ≤ sizeLine; decide), fun l hl => ?_⟩
    refine ⟨fun m σ H1 => ∃ vs ds o, σ = [some v0, some (.ref l), o] ∧ H1 l = some (.lst vs) ∧ DpAll K H vs ds ∧ shortAll ds = true ∧ ds.all termB = termB d0 ∧ Same H H1 ∧ m = PyData.weightAll ds ∧ m ≤ 1000001,
      ⟨_, [v0], [d0], none, rfl, upd_same, .cons hd .nil, by simp [shortAll, hs], by simp, Same.new hl, rfl, by simp [PyData.weightAll]; omega⟩, ?_⟩
    rintro m σ H1 ⟨vs, ds, o, rfl, hat, hD, hsh, hall, hS, rfl, hm⟩
    have line := sizeLine_eq
    have hlen := hD.len
    refine ⟨_, rfl, !vs.isEmpty, .inl ⟨vs, SqL.of hat, rfl⟩, ?_⟩
    by_cases hv : ds = []
    · subst hv
      cases hD
      have q' := q H1 hS
      rw [← hall] at q'
      exact iteF q'
    · obtain ⟨di, dx, rfl⟩ := split_last hv
      obtain ⟨us, vx, rfl, hDi, hDx⟩ := dpAll_split hD
      refine iteT' (by simp) ?_
      have hw1 : PyData.weightAll (di ++ [dx]) = PyData.weightAll di + (dx.weight + 1) := by
        rw [weightAll_app]
        simp [PyData.weightAll]
      refine ⟨fun σ' H' => ∃ m', m' < _ ∧ ∃ vs ds o, σ' = [some v0, some (.ref l), o] ∧ H' l = some (.lst vs) ∧ DpAll K H vs ds ∧ shortAll ds = true ∧ ds.all termB = termB d0 ∧ Same H H' ∧ m' = PyData.weightAll ds ∧ m' ≤ 1000001, fun σ' H' h => h, ?_⟩
      refine ⟨_, rfl, .inl ⟨rfl, _, SqL.of hat⟩, l, _, vx, rfl, rfl, hat, by simp, ?_⟩
      rw [List.dropLast_concat]
      have hs2 : Same H (upd H1 l (.lst us)) := fun b o h => by
        rw [upd_ne (ne_of_none h hl)]
        exact hS b o h
      have hshx : short dx = true := short_mem (i := di.length) hsh (by simp)
      have hshi : shortAll di = true := shortAll_init hsh
      have hall' : (di.all termB && termB dx) = termB d0 := by rw [← hall, List.all_append]; simp
      refine ⟨_, rfl, vx, dx, rfl, hDx.mono hs2, hshx, fun H2 s2 => ⟨_, rfl, ?_⟩⟩
      have hs3 := hs2.trans s2
      cases hb : shapedB dx with
      | false =>
        refine iteT ?_
        have q' := q H2 hs3
        rw [← hall', termB_eq dx, hb, Bool.false_and, Bool.and_false] at q'
        exact q'
      | true =>
        refine iteF ?_
        obtain ⟨u, rest, rfl, hr1⟩ := shaped_form hb
        cases hDx with
        | @tup a xs _ hq ha =>
          obtain ⟨w0, vr, rfl, g0, gr⟩ := dpAll_head ha
          cases g0
          have hsx := short_all hshx
          have hlr := gr.len
          have hat2 : H2 l = some (.lst us) := s2 _ _ upd_same
          refine ⟨_, rfl, .inl ⟨rfl, _, SqL.of hat2⟩, _, rfl, a, u, vr, rfl, sqT_mono hs3 hq, by omega, ?_, fun lp H3 hlp s3 hatp => ?_⟩
          · have := hsx.1
            rw [List.length_cons] at this
            omega
          · refine ⟨l, lp, us, selW u vr, rfl, rfl, s3 _ _ hat2, hatp, ?_, ?_⟩
            · have h1 := sel_len u vr
              have h2 := len_weightAll di
              have h3 := hDi.len
              have := hsx.1
              rw [List.length_cons] at this
              omega
            · have hwp := weight_parts (.tuple (.str u :: rest))
              have e : partsD (.tuple (.str u :: rest)) = selW u rest := rfl
              rw [e] at hwp
              refine ⟨PyData.weightAll (di ++ selW u rest), ?_, us ++ selW u vr, di ++ selW u rest, _, rfl, upd_same, hDi.app (sel_dp u gr), shortAll_app hshi (short_sel ?_), ?_, ?_, rfl, ?_⟩
              · rw [weightAll_app, hw1]
                omega
              · have h' : short (.str u) = true ∧ shortAll rest = true := by simpa [shortAll] using hsx.2
                exact h'.2
              · rw [← hall', termB_eq (.tuple (.str u :: rest)), hb, Bool.true_and, List.all_append]
                rfl
              · exact fun b o h => by
                  rw [upd_ne (ne_of_none h hl)]
                  exact s3 _ _ (hs3 b o h)
              · rw [weightAll_app]
                omega
end
end K16
set_option Elab.async false
set_option linter.all false
set_option maxRecDepth 100000
set_option maxHeartbeats 4000000
namespace K16
open PySem PySem.Spec PyProof.Rows L2
open C8 (Cal Def cal0 pe_c fnBody fnScope fnArgs)
theorem pick_at {α : Type} {l : List α} {r : Int} (h0 : 0 ≤ r) (h1 : r < (l.length : Nat)) : ∃ x, l[r.toNat]? = some x ∧ r = (r.toNat : Int) := ⟨_, List.getElem?_eq_getElem (show r.toNat < l.length by omega), by omega⟩
theorem atI_pick {xs : List V} {v : V} {r : Int} (e : r = (r.toNat : Int)) (h : xs[r.toNat]? = some v) : atI xs r = some v := by
  rw [e]
  exact atI_nat h
theorem atI_strs {l : List Str} {r : Int} (h0 : 0 ≤ r) (h1 : r < (l.length : Nat)) : ∃ z, z ∈ l ∧ atI (l.map V.str) r = some (.str z) := by
  obtain ⟨z, hz, e⟩ := pick_at h0 h1
  exact ⟨z, List.mem_of_getElem? hz, atI_pick e (by rw [List.getElem?_map, hz]; rfl)⟩
theorem kd_ok2 {k : Kd} (h : k.ok) (hd : k.deep ≤ 2) : Ok 3 28 k.d := by
  rw [kd_d]
  have := els_len k
  exact (Ok.tup (els_ok h) (by omega)).mono (by omega) (by omega)
theorem Ok.num {n m : Nat} {i : Int} (h0 : 0 ≤ i) (h1 : i < 1000000000000) (hm : 41 ≤ m) : Ok n m (.int i) := by
  have ha : i.natAbs < 10 ^ 12 := by
    have : (10 : Nat) ^ 12 = 1000000000000 := by decide
    omega
  have hl : i.natAbs < 2 ^ 40 := by
    have : (2 : Nat) ^ 40 = 1099511627776 := by decide
    omega
  refine ⟨rfl, by simp [PyData.depth], ?_, rfl, ?_, ?_⟩
  · simp only [PyData.weight]
    split
    · exact Nat.zero_le _
    · have := PySem.Flt.log2_lt_of (by decide : 0 < 40) hl
      omega
  · simp only [PyData.intsShort, decide_eq_true_eq]
    exact PyData.shown_int_le ha
  · have := PySem.Flt.log2_lt_of (by decide : 0 < 40) hl
    simp only [PyData.showable, decide_eq_true_eq]
    omega
/-! data without lists stand beside any list -/
mutual
def noL : PyData → Bool
  | .list _ => false
  | .dict _ => false
  | .tuple xs => noLs xs
  | _ => true
def noLs : List PyData → Bool
  | [] => true
  | x :: xs => noL x && noLs xs
end
theorem rd_hid {D a : Addr} {H : Hp} {ys xs : List V} (hD : H D = some (.lst ys)) (h : Rd H a (.tup xs)) : Rd (hid D H) a (.tup xs) := by
  rcases h with h | ⟨o, h⟩
  · have n : a ≠ D := fun e => by
      rw [e, hD] at h
      cases h
    exact .inl (by rw [hid_ne n]; exact h)
  · have n : a ≠ D := fun e => by
      rw [e, hD] at h
      cases h
    exact .inr ⟨o, by rw [hid_ne n]; exact h⟩
mutual
theorem dp_hid {K : PySem.W.Frag} {D : Addr} {H : Hp} {ys : List V} (hD : H D = some (.lst ys)) : ∀ {d : PyData} {v : V}, noL d = true → Dp K H v d → Dp K (hid D H) v d
  | .none, _, _, h => by cases h; exact .non
  | .bool b, _, _, h => by cases h; exact .bl b
  | .int i, _, _, h => by cases h; exact .int i
  | .str x, _, _, h => by cases h; exact .str x
  | .list _, _, n, _ => by simp [noL] at n
  | .dict _, _, n, _ => by simp [noL] at n
  | .tuple ds, _, n, h => by
    have n' : noLs ds = true := by simpa [noL] using n
    cases h with
    | tup hq ha => exact .tup (hq.elim (fun h => .inl (rd_hid hD h)) .inr) (dpAll_hid hD n' ha)
theorem dpAll_hid {K : PySem.W.Frag} {D : Addr} {H : Hp} {ys : List V} (hD : H D = some (.lst ys)) : ∀ {ds : List PyData} {vs : List V}, noLs ds = true → DpAll K H vs ds → DpAll K (hid D H) vs ds
  | [], _, _, h => by cases h; exact .nil
  | d :: ds, _, n, h => by
    have n' : noL d = true ∧ noLs ds = true := by simpa [noLs] using n
    cases h with
    | cons a b => exact .cons (dp_hid hD n'.1 a) (dpAll_hid hD n'.2 b)
end
theorem kd_noL : ∀ k : Kd, noL k.d = true
  | .num => by simp [Kd.d, noL, noLs]
  | .tru => by simp [Kd.d, noL, noLs]
  | .rcd z => by simp [Kd.d, noL, noLs]
  | .lst k => by simp [Kd.d, noL, noLs, kd_noL k]
theorem kind_true : ∀ {k : Kd}, k.ok → kindB k.d = true
  | .num, _ => by simp [Kd.d, kindB]
  | .tru, _ => by simp [Kd.d, kindB]
  | .rcd z, h => by
    show kindB (.tuple [.str "record", .str z]) = true
    rw [kindB_rec]
    exact h
  | .lst k, h => by
    show kindB (.tuple [.str "list", k.d]) = true
    rw [kindB_list]
    exact kind_true (k := k) h
theorem termB_leaf {u : Str} {d : PyData} (h1 : leafW u = true) (h2 : leafB u d = true) : termB (.tuple [.str u, d]) = true := by
  rw [termB_eq]
  have e1 : shapedB (.tuple [.str u, d]) = true := by
    show (decide (1 ≤ [d].length) && shapedW u [d]) = true
    unfold shapedW
    rw [if_pos h1]
    show (true && (true && leafB u d)) = true
    rw [h2]
    rfl
  have e2 : partsD (.tuple [.str u, d]) = [] := by
    show selW u [d] = []
    unfold selW
    rw [if_pos h1]
  rw [e1, e2]
  rfl
theorem termB_field {z : Str} {d : PyData} (h1 : nameS z = true) (h2 : termB d = true) : termB (.tuple [.str "field", d, .str z]) = true := by
  rw [termB_eq]
  have e1 : shapedB (.tuple [.str "field", d, .str z]) = true := by
    show (true && (true && nameS z)) = true
    rw [h1]
    rfl
  have e2 : partsD (.tuple [.str "field", d, .str z]) = [d] := rfl
  rw [e1, e2]
  simp [h2]
theorem termB_node {u : Str} {ds : List PyData} (h0 : leafW u = false) (hf : (u == ("field" : Str)) = false) (h1 : 1 ≤ ds.length) (h2 : shapedW u ds = true) (h3 : ds.all termB = true) : termB (.tuple (.str u :: ds)) = true := by
  rw [termB_eq]
  have e1 : shapedB (.tuple (.str u :: ds)) = true := by
    show (decide (1 ≤ ds.length) && shapedW u ds) = true
    rw [h2, decide_eq_true h1]
    rfl
  have e2 : partsD (.tuple (.str u :: ds)) = ds := by
    show selW u ds = ds
    unfold selW
    rw [h0, hf]
    rfl
  rw [e1, e2, h3]
  rfl
section
variable {P : Program} {w : World} {K : PySem.W.Frag} {mg : Str → Option Value} {base : Heap}
abbrev sLLeaf : Stmt := topS 25
abbrev NLLeaf : List Str := ["_law_pot_here", "_law_way"]
theorem scLLeaf : FnScope NLLeaf ["_law_pot_here"] (fnScope sLLeaf) := ⟨rfl, rfl, rfl, by decide +kernel, rfl, by decide +kernel, by decide +kernel⟩
/-- a leaf drawn: the pot's third number stays -/
def spLeaf (K : PySem.W.Frag) : Sp := fun vs H Q _ => ∃ (p : Addr) (x y n : Int), vs = [.ref p] ∧ Pot H p x y n ∧ ∀ v d H', Ok 4 100 d → termB d = true → noL d = true → Dh K p H' v d → Going p n H H' → Q v H'
theorem c_leaf (T : Tp mg) (c_LTake : Cal P w K mg base 1 "_law_take" spTake []) (c_LCalled : Cal P w K mg base 2 "_law_called" spCalled []) (c_LKind : Cal P w K mg base 5 "_law_kind" (spKind K 3) []) {f : Addr} {fd : FuncData} (D : Def K mg "_law_leaf" sLLeaf f fd) (b : Binds K fd ["_law_pot_here"] []) :
    Cal P w K mg base 6 "_law_leaf" (spLeaf K) [] := by
  refine cal0 D b .nil scLLeaf (fun vs H Q E h => ?_) (fun cdv A outer s H vs Q E hr h => ?_)
  · obtain ⟨p, x, y, n, rfl, _⟩ := h
    rfl
  · obtain ⟨p, x, y, n, rfl, hp, q⟩ := h
    have nd := scLLeaf.nd
    refine ⟨_, (pss_cons (ps_set (i := 1) nd rfl (.inl rfl) (pe_c c_LTake hr (by decide) (by rfl) (pa_cons (pv 0) (pa_cons pe_int pa_nil))))
    (pss_cons (ps_if (pt_cmpR op_eq (pv 1) pe_int (nomark _))
      (pss_one (ps_ret (pe_tup (pa_cons pe_str (pa_cons (pe_ix ix_list (pe_lst (pa_cons (pe_c c_LTake hr (by decide) (by rfl) (pa_cons (pv 0) (pa_cons pe_int pa_nil))) (pa_cons (pe_c c_LTake hr (by decide) (by rfl) (pa_cons (pv 0) (pa_cons (pe_op op_pow pe_int pe_int) pa_nil))) (pa_cons (pe_op op_sub (pe_op op_pow pe_int pe_int) pe_int) pa_nil)))) (pe_c c_LTake hr (by decide) (by rfl) (pa_cons (pv 0) (pa_cons pe_int pa_nil))) (fun _ _ => rfl)) pa_nil)))))
      pss_nil)
    (pss_cons (ps_if (pt_cmpR op_eq (pv 1) pe_int (nomark _))
      (pss_one (ps_ret (pe_tup (pa_cons pe_str (pa_cons (pe_cmpR op_eq (pe_c c_LTake hr (by decide) (by rfl) (pa_cons (pv 0) (pa_cons pe_int pa_nil))) pe_int (nomark _)) pa_nil)))))
      pss_nil)
    (pss_cons (ps_if (pt_cmpR op_eq (pv 1) pe_int (nomark _))
      (pss_one (ps_ret (pe_tup (pa_cons pe_str (pa_cons (pe_c c_LCalled hr (by decide) (by rfl) (pa_cons (pv 0) pa_nil)) pa_nil)))))
      pss_nil)
    (pss_cons (ps_if (pt_cmpR op_eq (pv 1) pe_int (nomark _))
      (pss_one (ps_ret (pe_tup (pa_cons pe_str (pa_cons (pe_c c_LKind hr (by decide) (by rfl) (pa_cons (pv 0) (pa_cons pe_int pa_nil))) pa_nil)))))
      pss_nil)
    (pss_one (ps_ret (pe_tup (pa_cons pe_str (pa_cons (pe_c c_LCalled hr (by decide) (by rfl) (pa_cons (pv 0) pa_nil)) pa_nil)))))))))), ?_⟩
    have wd : ∀ {z : Str}, asc z = true → z.length ≤ 20 → Ok 3 20 (.str z) := fun h hl => .str hl (by omega) (asc_of h)
    refine ⟨_, rfl, p, x, y, n, 6, rfl, hp, by decide, by decide, fun r x1 y1 r0 r1 hp1 => ?_⟩
    have g1 := going_pot (But.refl p H) hp1
    refine ⟨_, rfl, rfl, _, rfl, ite2 (fun _ => ?_) (fun _ => ?_)⟩
    · refine ⟨_, rfl, p, x1, y1, n, 3, rfl, hp1, by decide, by decide, fun ra x2 y2 ra0 ra1 hp2 => ?_⟩
      have g2 := g1.trans (going_pot (But.refl p _) hp2)
      refine ⟨_, rfl, _, _, rfl, rfl, (by show (0 : Int) ≤ 12 ∧ _; decide), p, x2, y2, n, _, rfl, hp2, (by decide), (by decide), fun rb x3 y3 rb0 rb1 hp3 => ?_⟩
      have g3 := g2.trans (going_pot (But.refl p _) hp3)
      refine ⟨_, _, rfl, rfl, (by show (0 : Int) ≤ 12 ∧ _; decide), _, _, rfl, rfl, (by show 3 ≤ sizeLine; decide), fun l hl => ?_⟩
      have g4 := g3.new (o := .lst [.int ra, .int rb, .int ((10 : Int) ^ (12 : Int).toNat - 1)]) hl
      obtain ⟨x4, y4, hp4⟩ := g4.2
      have nl := g3.ne hl
      refine ⟨_, rfl, p, x4, y4, n, 3, rfl, hp4, by decide, by decide, fun rc x5 y5 rc0 rc1 hp5 => ?_⟩
      have g5 := g4.trans (going_pot (But.refl p _) hp5)
      have e12 : (10 : Int) ^ (12 : Int).toNat = 1000000000000 := by decide
      rw [e12] at rb1
      obtain ⟨i, hi, hi0, hi1⟩ : ∃ i : Int, atI [V.int ra, .int rb, .int ((10 : Int) ^ (12 : Int).toNat - 1)] rc = some (.int i) ∧ 0 ≤ i ∧ i < 1000000000000 := by
        have hc : rc = 0 ∨ rc = 1 ∨ rc = 2 := by omega
        rcases hc with rfl | rfl | rfl
        · exact ⟨ra, atI_nat (j := 0) rfl, ra0, by omega⟩
        · exact ⟨rb, atI_nat (j := 1) rfl, rb0, rb1⟩
        · exact ⟨_, atI_nat (j := 2) rfl, by rw [e12]; decide, by rw [e12]; decide⟩
      refine ⟨l, _, rc, .int i, rfl, rfl, SqL.of (((But.refl p _).pot (o := .lst [.int x5, .int y5, .int n])) _ _ nl upd_same), hi, (by show 2 ≤ sizeLine; decide), fun t ht => ?_⟩
      refine q _ (.tuple [.str "number", .int i]) _ ?_ (termB_leaf (by decide +kernel) ?_) (by simp [noL, noLs]) (Dp.newT ht (g5.ne ht) (.cons (.str _) (.cons (.int i) .nil))) (g5.new ht)
      · exact (Ok.tup (OkAll.cons (wd (z := "number") (by decide +kernel) (by decide)) (OkAll.cons (a := 45) (b := 0) (.num hi0 hi1 (by decide)) .nil)) (by show 2 ≤ 1000; decide)).mono (by decide) (by decide)
      · show (decide (0 ≤ i) && decide (i < 1000000000000)) = true
        rw [decide_eq_true hi0, decide_eq_true hi1]
        rfl
    · refine ⟨_, rfl, rfl, _, rfl, ite2 (fun _ => ?_) (fun _ => ?_)⟩
      · refine ⟨_, rfl, p, x1, y1, n, 2, rfl, hp1, by decide, by decide, fun ra x2 y2 ra0 ra1 hp2 => ⟨rfl, (by show 2 ≤ sizeLine; decide), fun t ht => ?_⟩⟩
        have g2 := g1.trans (going_pot (But.refl p _) hp2)
        refine q _ (.tuple [.str "truth", .bool _]) _ ?_ (termB_leaf (by decide +kernel) rfl) (by simp [noL, noLs]) (Dp.newT ht (g2.ne ht) (.cons (.str _) (.cons (.bl _) .nil))) (g2.new ht)
        exact (Ok.tup (OkAll.cons (wd (z := "truth") (by decide +kernel) (by decide)) (OkAll.cons (a := 45) (b := 0) (.bool _) .nil)) (by show 2 ≤ 1000; decide)).mono (by decide) (by decide)
      · refine ⟨_, rfl, rfl, _, rfl, ite2 (fun _ => ?_) (fun _ => ?_)⟩
        · refine ⟨_, rfl, p, x1, y1, n, rfl, hp1, fun z H2 hz g2 => ⟨(by show 2 ≤ sizeLine; decide), fun t ht => ?_⟩⟩
          have g3 := g1.trans g2
          have zl := name_len hz
          refine q _ (.tuple [.str "box", .str z]) _ ?_ (termB_leaf (by decide +kernel) hz) (by simp [noL, noLs]) (Dp.newT ht (g3.ne ht) (.cons (.str _) (.cons (.str _) .nil))) (g3.new ht)
          exact (Ok.tup (OkAll.cons (wd (z := "box") (by decide +kernel) (by decide)) (OkAll.cons (a := 45) (b := 0) (.str (by omega) (by omega) (name_asc hz)) .nil)) (by show 2 ≤ 1000; decide)).mono (by decide) (by decide)
        · refine ⟨_, rfl, rfl, _, rfl, ite2 (fun _ => ?_) (fun _ => ?_)⟩
          · refine ⟨_, rfl, p, x1, y1, n, 2, rfl, by decide, hp1, fun v k H2 kok kd hD g2 => ⟨(by show 2 ≤ sizeLine; decide), fun t ht => ?_⟩⟩
            have g3 := g1.trans g2
            refine q _ (.tuple [.str "empty", k.d]) _ ?_ (termB_leaf (by decide +kernel) (kind_true kok)) (by simp [noL, noLs, kd_noL k]) (Dp.newT ht (g3.ne ht) (.cons (.str _) (.cons hD .nil))) (g3.new ht)
            exact (Ok.tup (OkAll.cons (wd (z := "empty") (by decide +kernel) (by decide)) (OkAll.cons (b := 0) (kd_ok2 kok kd) .nil)) (by show 2 ≤ 1000; decide)).mono (by decide) (by decide)
          · refine ⟨_, rfl, p, x1, y1, n, rfl, hp1, fun z H2 hz g2 => ⟨(by show 2 ≤ sizeLine; decide), fun t ht => ?_⟩⟩
            have g3 := g1.trans g2
            have zl := name_len hz
            refine q _ (.tuple [.str "name", .str z]) _ ?_ (termB_leaf (by decide +kernel) hz) (by simp [noL, noLs]) (Dp.newT ht (g3.ne ht) (.cons (.str _) (.cons (.str _) .nil))) (g3.new ht)
            exact (Ok.tup (OkAll.cons (wd (z := "name") (by decide +kernel) (by decide)) (OkAll.cons (a := 45) (b := 0) (.str (by omega) (by omega) (name_asc hz)) .nil)) (by show 2 ≤ 1000; decide)).mono (by decide) (by decide)
end
end K16
set_option Elab.async false
set_option linter.all false
set_option maxRecDepth 100000
set_option maxHeartbeats 4000000
namespace K16
open PySem PySem.Spec PyProof.Rows L2
open C8 (Cal Def cal0 pe_c fnBody fnScope fnArgs)
section
variable {P : Program} {w : World} {K : PySem.W.Frag} {mg : Str → Option Value} {base : Heap}
/-- a term drawn, deep at most m < j: how many terms were drawn within is told by the pot's third number -/
def Drawn (K : PySem.W.Frag) (p : Addr) (m : Nat) (n : Int) (H : Hp) (Q : VK) : Prop :=
  ∀ v d H' n' (W : Nat), n' ≤ n → (n ≤ n' ∨ -(8 * (m : Int)) ≤ n') → (W : Int) ≤ 100 + 100 * (n - n') → Ok (m + 4) W d → termB d = true → noL d = true → Dh K p H' v d → Going p n' H H' → Q v H'
def spT (K : PySem.W.Frag) (j : Nat) : Sp := fun vs H Q _ => ∃ (p : Addr) (x y n : Int) (m : Nat), vs = [.ref p, .int m] ∧ m < j ∧ Pot H p x y n ∧ Drawn K p m n H Q
def spI (K : PySem.W.Frag) (j : Nat) : Sp := fun vs H Q _ => ∃ (p : Addr) (x y n : Int) (m : Nat), vs = [.ref p, .int ((m + 1 : Nat) : Int)] ∧ m < j ∧ Pot H p x y n ∧ Drawn K p m (n - 1) H Q
abbrev sLInner : Stmt := topS 24
abbrev NLInner : List Str := ["_law_pot_here", "_law_deep"]
theorem scLInner : FnScope NLInner ["_law_pot_here", "_law_deep"] (fnScope sLInner) := ⟨rfl, rfl, rfl, by decide +kernel, rfl, by decide +kernel, by decide +kernel⟩
theorem atI_m1 {x y z : V} : atI [x, y, z] (-1) = some z := atI_last [x, y] z
theorem c_inner {j lv : Nat} (c_LTerm : Cal P w K mg base lv "_law_term" (spT K j) []) {f : Addr} {fd : FuncData} (D : Def K mg "_law_inner" sLInner f fd) (b : Binds K fd ["_law_pot_here", "_law_deep"] []) : Cal P w K mg base (lv + 1) "_law_inner" (spI K j) [] := by
  refine cal0 D b .nil scLInner (fun vs H Q E h => ?_) (fun cdv A outer s H vs Q E hr h => ?_)
  · obtain ⟨p, x, y, n, m, rfl, _⟩ := h
    rfl
  · obtain ⟨p, x, y, n, m, rfl, hm, hp, q⟩ := h
    refine ⟨_, (pss_cons (ps_asg (pe_op op_sub (pe_ix ix_list (pv 0) (pe_un un_neg pe_int) (fun _ _ => rfl)) pe_int) (pg_sub (pv 0) (pe_un un_neg pe_int) set_list))
    (pss_one (ps_ret (pe_c c_LTerm hr (Nat.le_refl _) (by rfl) (pa_cons (pv 0) (pa_cons (pe_op op_sub (pv 1) pe_int) pa_nil)))))), ?_⟩
    refine ⟨_, rfl, 1, rfl, _, _, _, _, rfl, rfl, SqL.of hp.at_, atI_m1, _, _, rfl, rfl, ?_⟩
    refine ⟨_, rfl, 1, rfl, p, _, _, 2, rfl, rfl, hp.at_, rfl, ?_⟩
    have hp2 : Pot (upd H p (.lst [.int x, .int y, .int (n - 1)])) p x y (n - 1) := ⟨upd_same, hp.x0, hp.y0, hp.y1⟩
    refine ⟨_, rfl, _, rfl, _, _, rfl, rfl, p, x, y, n - 1, m, ?_, hm, hp2, fun v d H' n' W h1 h2 h3 h4 h5 h5' h6 h7 => ?_⟩
    · show [V.ref p, V.int (((m + 1 : Nat) : Int) - 1)] = _
      rw [show ((m + 1 : Nat) : Int) - 1 = (m : Int) by omega]
    · exact q v d H' n' W h1 h2 h3 h4 h5 h5' h6 ⟨((But.refl p H).pot).trans h7.1, h7.2⟩
theorem hid_upd {D : Addr} {H : Hp} {o : HO} : hid D (upd H D o) = hid D H := by
  funext b
  unfold hid upd
  by_cases h : b = D
  · rw [if_pos h, if_pos h]
  · rw [if_neg h, if_neg h, if_neg h]
theorem hid_same {p : Addr} {H H' : Hp} (e : Same H H') : Same (hid p H) (hid p H') := fun b o h => by
  obtain ⟨n, h⟩ := hid_some h
  rw [hid_ne n]
  exact e b o h
theorem hid_hid {p D : Addr} {H : Hp} : hid D (hid p H) = hid p (hid D H) := by
  funext b
  unfold hid
  by_cases h : b = D <;> by_cases h2 : b = p <;> simp [h, h2]
theorem hid2_but {p D : Addr} {H H' : Hp} (e : But p H H') : Same (hid p (hid D H)) (hid p (hid D H')) := fun b o h => by
  obtain ⟨n, h⟩ := hid_some h
  obtain ⟨n2, h⟩ := hid_some h
  rw [hid_ne n, hid_ne n2]
  exact e b o n h
theorem noLs_app : ∀ {xs ys : List PyData}, noLs xs = true → noLs ys = true → noLs (xs ++ ys) = true
  | [], _, _, h => h
  | x :: xs, _, h, h2 => by
    have h' : noL x = true ∧ noLs xs = true := by simpa [noLs] using h
    simp only [List.cons_append, noLs, h'.1, noLs_app h'.2 h2, Bool.and_self]
/-- several terms drawn, one behind the other, in a comprehension: what is made so far -/
structure Row (K : PySem.W.Frag) (p D : Addr) (m : Nat) (n : Int) (H : Hp) (i : Nat) (H' : Hp) (n' : Int) (vs : List V) (ds : List PyData) (W : Nat) : Prop where
  hi : n' ≤ n - i
  lo : n - i ≤ n' ∨ -(8 * (m : Int)) - i ≤ n'
  wt : (W : Int) ≤ 101 * i + 100 * (n - i - n')
  ok : OkAll (m + 4) W ds
  tm : ds.all termB = true
  nl : noLs ds = true
  ln : ds.length = i
  dt : DpAll K (hid p (hid D H')) vs ds
  at_ : H' D = some (.lst vs)
  go : Going p n' H H'
theorem lc_inner {j : Nat} {p : Addr} {x y n : Int} {m c : Nat} {H : Hp} {σ : L2.St} {R9 : Addr → Hp → Prop} (hm : m < j) (hc : c ≤ 8) (hp : Pot H p x y n) (s0 : (wipe σ [4])[0]? = some (some (.ref p))) (s1 : (wipe σ [4])[1]? = some (some (.int ((m + 1 : Nat) : Int)))) (hl : σ.length = 5)
    (q : ∀ D H' n' vs ds W, D ≠ p → Row K p D m n H c H' n' vs ds W → R9 D H') :
    ∀ D, H D = none → ∃ W : Nat → Nat → Hp → Prop, (∃ m, W 0 m (upd H D (.lst []))) ∧ ∀ i m H, W i m H →
      ((Itr 0 c).stop i H ∧ R9 D H) ∨ ((Itr 0 c).go i H ∧ ∃ Nx : Hp → Prop, (∀ H', Nx H' → ∃ m', m' < m ∧ W (i + 1) m' H') ∧ ∀ x H', (Itr 0 c).yld i H x H' → gName 4 x (wipe σ [4]) H' fun σ2 H2 => wipe σ2 [4] = wipe σ [4] ∧ tYes σ2 H2 fun b H3 =>
        if b = true then (tCall (spI K j) [] C8.E0 (tCons (tVar 0) (tCons (tVar 1) tNil))) σ2 H3 fun y H4 => ∃ acc, H4 D = some (.lst acc) ∧ acc.length < sizeLine ∧ Nx (upd H4 D (.lst (acc ++ [y]))) else Nx H3) := by
  intro D hD
  have nD := hp.ne hD
  refine lc_range (lo := 0) (n := c) (fun i H' => ∃ n' vs ds W, Row K p D m n H i H' n' vs ds W)
    ⟨n, [], [], 0, by omega, .inl (by omega), by omega, .nil, rfl, rfl, rfl, .nil, upd_same, But.new hD, x, y, hp.new hD⟩ (fun i H' hi hW => ?_) (fun H' hW => ?_)
  · obtain ⟨n', vs, ds, W, R⟩ := hW
    obtain ⟨x1, y1, hp1⟩ := R.go.2
    have lenw : (wipe σ [4]).length = 5 := by rw [wipe_length, hl]
    refine ⟨?_, ?_⟩
    · show ((wipe σ [4]).set 4 (some (.int (0 + (i : Int))))).set 4 none = wipe σ [4]
      rw [List.set_set]
      show ((σ.set 4 none).set 4 none) = σ.set 4 none
      rw [List.set_set]
    · unfold tYes; dsimp only
      rw [if_pos rfl]
      refine ⟨_, (by rw [List.getElem?_set_ne (by decide)]; exact s0), _, (by rw [List.getElem?_set_ne (by decide)]; exact s1), p, x1, y1, n', m, rfl, hm, hp1, fun v d H2 n2 W2 h1 h2 h3 h4 h5 h5' h6 h7 => ?_⟩
      have hat2 : H2 D = some (.lst vs) := h7.1 _ _ nD R.at_
      have hlen := R.dt.len
      have hln := R.ln
      have line := sizeLine_eq
      refine ⟨vs, hat2, by omega, n2, vs ++ [v], ds ++ [d], W + (W2 + 1), ?_, ?_, ?_, ?_, ?_, ?_, ?_, ?_, upd_same, ?_⟩
      · have := R.hi; omega
      · have := R.hi
        have := R.lo
        rcases h2 with h2 | h2 <;> omega
      · have := R.wt
        have := R.hi
        omega
      · have := R.ok.app (OkAll.cons (b := 0) h4 .nil)
        exact this
      · rw [List.all_append, R.tm]
        simp [h5]
      · exact noLs_app R.nl (by simp [noLs, h5'])
      · rw [List.length_append, R.ln]
        rfl
      · rw [hid_upd]
        refine (DpAll.mono (hid2_but h7.1) R.dt).app (.cons ?_ .nil)
        rw [← hid_hid]
        exact dp_hid (ys := vs) (by rw [hid_ne nD]; exact hat2) h5' h6
      · refine ⟨fun b o nb hb => ?_, ?_⟩
        · rw [upd_ne (ne_of_none hb hD)]
          exact h7.1 b o nb (R.go.1 b o nb hb)
        · obtain ⟨x2, y2, hp2⟩ := h7.2
          exact ⟨x2, y2, by rw [upd_ne nD.symm]; exact hp2.at_, hp2.x0, hp2.y0, hp2.y1⟩
  · obtain ⟨n', vs, ds, W, R⟩ := hW
    exact q D H' n' vs ds W nD R
end
end K16
set_option Elab.async false
set_option linter.all false
set_option maxRecDepth 100000
set_option maxHeartbeats 4000000
namespace K16
open PySem PySem.Spec PyProof.Rows L2
open C8 (Cal Def cal0 pe_c fnBody fnScope fnArgs)
theorem shapedW_cnt {u : Str} {ds : List PyData} {c : Int} (h0 : leafW u = false) (h1 : (u == ("field" : Str)) = false) (h2 : (u == ("list" : Str)) = false) (h3 : counts.lookup u = some c) (h4 : (ds.length : Int) = c) : shapedW u ds = true := by
  unfold shapedW
  rw [h0, h1, h2, h3]
  exact decide_eq_true h4
theorem shapedW_list {ds : List PyData} (h : ds.length ≤ 8) : shapedW "list" ds = true := by
  unfold shapedW
  rw [show leafW "list" = false by decide +kernel, show (("list" : Str) == ("field" : Str)) = false by decide +kernel, show (("list" : Str) == ("list" : Str)) = true by decide +kernel]
  exact decide_eq_true h
/-- a word of terms with so many terms behind it -/
structure Word (u : Str) (c : Int) : Prop where
  leaf : leafW u = false
  fld : (u == ("field" : Str)) = false
  lst : (u == ("list" : Str)) = false
  cnt : counts.lookup u = some c
  ok : asc u = true
  len : u.length ≤ 10
theorem words1 {u : Str} (h : u ∈ (["not", "many"] : List Str)) : Word u 1 := by
  simp only [List.mem_cons, List.not_mem_nil, or_false] at h
  rcases h with rfl | rfl <;> exact ⟨by decide +kernel, by decide +kernel, by decide +kernel, by decide +kernel, by decide +kernel, by decide⟩
theorem words3 {u : Str} (h : u ∈ (["pick", "at"] : List Str)) : Word u 3 := by
  simp only [List.mem_cons, List.not_mem_nil, or_false] at h
  rcases h with rfl | rfl <;> exact ⟨by decide +kernel, by decide +kernel, by decide +kernel, by decide +kernel, by decide +kernel, by decide⟩
theorem words2 {u : Str} (h : u ∈ (["add", "less", "times", "under", "same", "both", "join"] : List Str)) : Word u 2 := by
  simp only [List.mem_cons, List.not_mem_nil, or_false] at h
  rcases h with rfl | rfl | rfl | rfl | rfl | rfl | rfl <;> exact ⟨by decide +kernel, by decide +kernel, by decide +kernel, by decide +kernel, by decide +kernel, by decide⟩
theorem Word.str {u : Str} {c : Int} {n : Nat} (h : Word u c) : Ok n 10 (.str u) := .str h.len (by have := h.len; omega) (asc_of h.ok)
section
variable {P : Program} {w : World} {K : PySem.W.Frag} {mg : Str → Option Value} {base : Heap}
abbrev sLTerm : Stmt := topS 23
abbrev NLTerm : List Str := ["_law_pot_here", "_law_deep", "_law_way", "_law_word", "_law_k"]
theorem scLTerm : FnScope NLTerm ["_law_pot_here", "_law_deep"] (fnScope sLTerm) := ⟨rfl, rfl, rfl, by decide +kernel, rfl, by decide +kernel, by decide +kernel⟩
theorem Row.dat {p D : Addr} {m : Nat} {n : Int} {H H' : Hp} {i : Nat} {n' : Int} {vs : List V} {ds : List PyData} {W : Nat} (R : Row K p D m n H i H' n' vs ds W) : DhAll K p H' vs ds := DpAll.mono (hid_same hid_in) R.dt
/-- a word and the row of terms behind it make a term -/
theorem row_term {p D : Addr} {m c : Nat} {n : Int} {H H0 H' H2 : Hp} {n' : Int} {vs : List V} {ds : List PyData} {W : Nat} {u : Str} {q : Addr} {Q : VK} (hn : 0 < n) (hc : c ≤ 8) (hc1 : 1 ≤ c) (g0 : Going p n H0 H) (R : Row K p D m n H c H' n' vs ds W) (g : Going p n' H' H2) (hq : H2 q = none)
    (ok : Ok 0 10 (.str u)) (h0 : leafW u = false) (hf : (u == ("field" : Str)) = false) (hs : ds.length = c → shapedW u ds = true) (hd : Drawn K p (m + 1) n H0 Q) : Q (.ref q) (upd H2 q (.tup (.str u :: vs))) := by
  have h1 := R.hi
  have h2 := R.lo
  have h3 := R.wt
  have h4 := R.ln
  refine hd (.ref q) (.tuple (.str u :: ds)) _ n' (10 + 1 + W) (by omega) (.inr (by rcases h2 with h2 | h2 <;> omega)) (by omega) ?_ (termB_node h0 hf (by omega) (hs R.ln) R.tm) ?_ (Dp.newT hq (g.ne hq) (.cons (.str _) (R.dat.but g.1))) ((g0.trans (R.go.trans g)).new hq)
  · exact Ok.tup (OkAll.cons (ok.mono (Nat.zero_le _) (Nat.le_refl _)) R.ok) (by rw [List.length_cons]; omega)
  · simp [noL, noLs, R.nl]
theorem c_term (T : Tp mg) (c_LTake : Cal P w K mg base 1 "_law_take" spTake []) (c_LCalled : Cal P w K mg base 2 "_law_called" spCalled []) (c_LLeaf : Cal P w K mg base 6 "_law_leaf" (spLeaf K) [])
    {f fI : Addr} {fd fdI : FuncData} (D : Def K mg "_law_term" sLTerm f fd) (b : Binds K fd ["_law_pot_here", "_law_deep"] []) (DI : Def K mg "_law_inner" sLInner fI fdI) (bI : Binds K fdI ["_law_pot_here", "_law_deep"] []) :
    ∀ j : Nat, Cal P w K mg base (7 + 2 * j) "_law_term" (spT K j) []
  | 0 => cal_no _ (fun vs H Q E ⟨p, x, y, n, m, _, h, _⟩ => absurd h (Nat.not_lt_zero _)) D b
  | j + 1 => by
    have c_LInner := c_inner (c_term T c_LTake c_LCalled c_LLeaf D b DI bI j) DI bI
    have e9 : 7 + 2 * (j + 1) = (8 + 2 * j) + 1 := by omega
    rw [e9]
    refine cal0 D b .nil scLTerm (fun vs H Q E h => ?_) (fun cdv A outer s H vs Q E hr h => ?_)
    · obtain ⟨p, x, y, n, m, rfl, _⟩ := h
      rfl
    · obtain ⟨p, x, y, n, m, rfl, hm, hp, q⟩ := h
      have nd := scLTerm.nd
      have line := sizeLine_eq
      refine ⟨_, (C8.pss_cut (ps_set (i := 2) nd rfl (.inl rfl) (pe_op op_mul (pe_c c_LTake hr (by omega) (by rfl) (pa_cons (pv 0) (pa_cons pe_int pa_nil))) (pe_callTy call_int1 (by rfl) T.n_int (by decide +kernel) (pa_cons (pe_and (pe_cmpR op_gt (pv 1) pe_int (nomark _)) (pe_one (pe_cmpR op_gt (pe_ix ix_list (pv 0) (pe_un un_neg pe_int) (fun _ _ => rfl)) pe_int (nomark _)))) pa_nil))))
    (pss_cons (ps_if (pt_cmpR op_lt (pv 2) pe_int (nomark _))
      (pss_one (ps_ret (pe_c c_LLeaf hr (by omega) (by rfl) (pa_cons (pv 0) pa_nil))))
      pss_nil)
    (pss_cons (ps_if (pt_cmpR op_eq (pv 2) pe_int (nomark _))
      (pss_one (ps_ret (pe_tup (pa_cons pe_str (pa_cons (pe_c c_LInner hr (by omega) (by rfl) (pa_cons (pv 0) (pa_cons (pv 1) pa_nil))) (pa_cons (pe_c c_LCalled hr (by omega) (by rfl) (pa_cons (pv 0) pa_nil)) pa_nil))))))
      pss_nil)
    (pss_cons (ps_if (pt_cmpR op_eq (pv 2) pe_int (nomark _))
      (pss_one (ps_ret (pe_op op_catA (pe_tup (pa_cons pe_str pa_nil)) (pe_callTy call_tuple_of (by rfl) T.n_tuple (by decide +kernel) (pa_cons (pe_lc (own := [("_law_k", 4)]) (g := gName 4) (by rfl) nd (pi_range1 (by rfl) T.n_range (pa_cons (pe_op op_add pe_int (pe_c c_LTake hr (by omega) (by rfl) (pa_cons (pv 0) (pa_cons pe_int pa_nil)))) pa_nil)) (blkOk_by (own := [("_law_k", 4)]) (N := NLTerm) (sc := fnScope sLTerm) (by decide +kernel)) (fun _ _ _ _ _ => pg_name (i := 4) nd rfl (Or.inl rfl)) (fun _ _ _ _ _ => pts_nil) (fun _ _ _ _ _ => (pe_c c_LInner hr (by omega) (by rfl) (pa_cons (pv 0) (pa_cons (pv 1) pa_nil))))) pa_nil)))))
      pss_nil)
    (pss_cons (ps_if (pt_cmpR op_eq (pv 2) pe_int (nomark _))
      (pss_one (ps_ret (pe_op op_catA (pe_tup (pa_cons (pe_ix ix_list (pe_lst (pa_cons pe_str (pa_cons pe_str pa_nil))) (pe_c c_LTake hr (by omega) (by rfl) (pa_cons (pv 0) (pa_cons pe_int pa_nil))) (fun _ _ => rfl)) pa_nil)) (pe_callTy call_tuple_of (by rfl) T.n_tuple (by decide +kernel) (pa_cons (pe_lc (own := [("_law_k", 4)]) (g := gName 4) (by rfl) nd (pi_range1 (by rfl) T.n_range (pa_cons pe_int pa_nil)) (blkOk_by (own := [("_law_k", 4)]) (N := NLTerm) (sc := fnScope sLTerm) (by decide +kernel)) (fun _ _ _ _ _ => pg_name (i := 4) nd rfl (Or.inl rfl)) (fun _ _ _ _ _ => pts_nil) (fun _ _ _ _ _ => (pe_c c_LInner hr (by omega) (by rfl) (pa_cons (pv 0) (pa_cons (pv 1) pa_nil))))) pa_nil)))))
      pss_nil)
    (pss_cons (ps_if (pt_cmpR op_eq (pv 2) pe_int (nomark _))
      (pss_one (ps_ret (pe_tup (pa_cons (pe_ix ix_list (pe_lst (pa_cons pe_str (pa_cons pe_str pa_nil))) (pe_c c_LTake hr (by omega) (by rfl) (pa_cons (pv 0) (pa_cons pe_int pa_nil))) (fun _ _ => rfl)) (pa_cons (pe_c c_LInner hr (by omega) (by rfl) (pa_cons (pv 0) (pa_cons (pv 1) pa_nil))) pa_nil)))))
      pss_nil)
    (pss_cons (ps_set (i := 3) nd rfl (.inl rfl) (pe_ix ix_list (pe_lst (pa_cons pe_str (pa_cons pe_str (pa_cons pe_str (pa_cons pe_str (pa_cons pe_str (pa_cons pe_str (pa_cons pe_str pa_nil)))))))) (pe_c c_LTake hr (by omega) (by rfl) (pa_cons (pv 0) (pa_cons pe_int pa_nil))) (fun _ _ => rfl)))
    (pss_one (ps_ret (pe_tup (pa_cons (pv 3) (pa_cons (pe_c c_LInner hr (by omega) (by rfl) (pa_cons (pv 0) (pa_cons (pv 1) pa_nil))) (pa_cons (pe_c c_LInner hr (by omega) (by rfl) (pa_cons (pv 0) (pa_cons (pv 1) pa_nil))) pa_nil))))))))))))), ?_⟩
      refine ⟨fun σ' H' => ∃ wy : Int, σ' = [some (.ref p), some (.int m), some (.int wy), none, none] ∧ (wy < 4 ∨ (0 < m ∧ 0 < n)) ∧ Going p n H H', ?_, ?_⟩
      · refine ⟨_, rfl, p, x, y, n, 12, rfl, hp, by decide, by decide, fun r x1 y1 r0 r1 hp1 => ?_⟩
        have g1 := going_pot (But.refl p H) hp1
        refine ⟨_, rfl, _, _, rfl, rfl, _, rfl, ite2 (fun e => ?_) (fun e => ?_)⟩
        · have e' : (0 : Int) < m := of_decide_eq_true e
          refine ⟨_, rfl, 1, rfl, _, _, _, _, rfl, rfl, SqL.of hp1.at_, atI_m1, _, _, rfl, rfl, .inr ⟨_, rfl, _, _, rfl, rfl, .inl ⟨by omega, by omega⟩, ?_⟩⟩
          refine ⟨_, rfl, ?_, g1⟩
          by_cases hn : 0 < n
          · exact .inr ⟨by omega, hn⟩
          · exact .inl (by rw [decide_eq_false hn]; show r * 0 < 4; omega)
        · refine .inr ⟨_, rfl, _, _, rfl, rfl, .inl ⟨by omega, by omega⟩, ?_⟩
          exact ⟨_, rfl, .inl (by show r * 0 < 4; omega), g1⟩
      · rintro σ' H1 ⟨wy, rfl, hw, g1⟩
        obtain ⟨x1, y1, hp1⟩ := g1.2
        refine ⟨_, rfl, _, _, rfl, rfl, _, rfl, ite2 (fun e => ?_) (fun e => ?_)⟩
        · refine ⟨_, rfl, p, x1, y1, n, rfl, hp1, fun v d H2 h1 h2 h3 h4 g2 => ?_⟩
          exact q v d H2 n 100 (Int.le_refl _) (.inl (Int.le_refl _)) (by omega) (h1.mono (by omega) (Nat.le_refl _)) h2 h3 h4 (g1.trans g2)
        · have hw' : 0 < m ∧ 0 < n := by
            rcases hw with h | h
            · exact absurd (decide_eq_true h) e
            · exact h
          obtain ⟨m', rfl⟩ : ∃ m', m = m' + 1 := ⟨m - 1, by omega⟩
          have hm' : m' < j := by omega
          have hn := hw'.2
          refine ⟨_, rfl, rfl, _, rfl, ite2 (fun _ => ?_) (fun _ => ?_)⟩
          · refine ⟨_, rfl, _, rfl, p, x1, y1, n, m', rfl, hm', hp1, fun v d H2 n2 W h1 h2 h3 h4 h5 h6 h7 g2 => ?_⟩
            obtain ⟨x2, y2, hp2⟩ := g2.2
            refine ⟨_, rfl, p, x2, y2, n2, rfl, hp2, fun z H3 hz g3 => ⟨(by show 3 ≤ sizeLine; decide), fun t ht => ?_⟩⟩
            have zl := name_len hz
            have g4 := g1.trans (g2.trans g3)
            refine q _ (.tuple [.str "field", d, .str z]) _ n2 (5 + 1 + (W + 1 + (8 + 1 + 0))) (by omega) (.inr (by rcases h2 with h2 | h2 <;> omega)) (by omega) ?_ (termB_field hz h5) (by simp [noL, noLs, h6]) (Dp.newT ht (g4.ne ht) (.cons (.str _) (.cons (h7.but g3.1) (.cons (.str _) .nil)))) (g4.new ht)
            exact Ok.tup (OkAll.cons (lit_ok (z := "field") (by decide +kernel) (by decide) (by decide)) (OkAll.cons h4 (OkAll.cons (b := 0) (.str zl.2 (by omega) (name_asc hz)) .nil))) (by show 3 ≤ 1000; decide)
          · refine ⟨_, rfl, rfl, _, rfl, ite2 (fun _ => ?_) (fun _ => ?_)⟩
            · refine ⟨(by show 1 ≤ sizeLine; decide), fun t1 ht1 => ?_⟩
              have g2 := g1.new (o := .tup [.str "list"]) ht1
              obtain ⟨x2, y2, hp2⟩ := g2.2
              have n1 := g1.ne ht1
              refine ⟨_, rfl, p, x2, y2, n, 8, rfl, hp2, by decide, by decide, fun r x3 y3 r0 r1 hp3 => ?_⟩
              have g3 := g2.trans (going_pot (But.refl p _) hp3)
              refine ⟨_, _, rfl, rfl, 1 + r, rfl, by omega, by omega, ?_⟩
              refine lc_inner (j := j) (c := (1 + r).toNat) (σ := [some (.ref p), some (.int ((m' + 1 : Nat) : Int)), some (.int wy), none, none]) hm' (by omega) hp3 rfl rfl rfl (fun Dl H4 n4 vs ds W nD R => ?_)
              refine ⟨Dl, vs, rfl, .inl ⟨SqL.of R.at_, fun t2 ht2 => ?_⟩⟩
              have g4 := R.go.new (o := .tup vs) ht2
              have hl := R.dt.len
              have hl2 := R.ln
              have hn1 := R.go.1
              have ht1a : (upd H4 t2 (.tup vs)) t1 = some (.tup [.str "list"]) := (But.new (p := p) ht2) _ _ n1 (hn1 _ _ n1 ((But.refl p _).pot _ _ n1 upd_same))
              refine ⟨t1, t2, _, _, rfl, rfl, SqT.of ht1a, SqT.of upd_same, by show 1 + vs.length ≤ sizeLine; omega, (fun e => nomatch e), (fun _ e => ?_), fun _ _ t3 ht3 => ?_⟩
              · rw [e] at hl
                simp at hl
                omega
              · have gg : Going p n4 H4 (upd H4 t2 (.tup vs)) := ⟨But.new ht2, let ⟨a, b, h⟩ := R.go.2; ⟨a, b, h.new ht2⟩⟩
                exact row_term hn (by omega) (by omega) g3 R gg ht3 (lit_ok (by decide +kernel) (by decide) (by decide)) (by decide +kernel) (by decide +kernel) (fun h => shapedW_list (by omega)) q
            · refine ⟨_, rfl, rfl, _, rfl, ite2 (fun _ => ?_) (fun _ => ?_)⟩
              · refine ⟨(by show 2 ≤ sizeLine; decide), fun l1 hl1 => ?_⟩
                have g2 := g1.new (o := .lst [.str "pick", .str "at"]) hl1
                obtain ⟨x2, y2, hp2⟩ := g2.2
                have nl1 := g1.ne hl1
                refine ⟨_, rfl, p, x2, y2, n, 2, rfl, hp2, by decide, by decide, fun r x3 y3 r0 r1 hp3 => ?_⟩
                have g3 := g2.trans (going_pot (But.refl p _) hp3)
                obtain ⟨u, hu, hat⟩ := atI_strs (l := ["pick", "at"]) r0 r1
                have wu := words3 hu
                refine ⟨l1, _, r, .str u, rfl, rfl, SqL.of ((But.refl p _).pot _ _ nl1 upd_same), hat, (by show 1 ≤ sizeLine; decide), fun t1 ht1 => ?_⟩
                have n1 := g3.ne ht1
                have g3' := g3.new (o := .tup [.str u]) ht1
                obtain ⟨x4, y4, hp4⟩ := g3'.2
                refine ⟨3, rfl, by decide, by decide, ?_⟩
                refine lc_inner (j := j) (c := 3) (σ := [some (.ref p), some (.int ((m' + 1 : Nat) : Int)), some (.int wy), none, none]) hm' (by decide) hp4 rfl rfl rfl (fun Dl H4 n4 vs ds W nD R => ?_)
                refine ⟨Dl, vs, rfl, .inl ⟨SqL.of R.at_, fun t2 ht2 => ?_⟩⟩
                have hl := R.dt.len
                have hl2 := R.ln
                have ht1a : (upd H4 t2 (.tup vs)) t1 = some (.tup [.str u]) := (But.new (p := p) ht2) _ _ n1 (R.go.1 _ _ n1 upd_same)
                refine ⟨t1, t2, _, _, rfl, rfl, SqT.of ht1a, SqT.of upd_same, by show 1 + vs.length ≤ sizeLine; omega, (fun e => nomatch e), (fun _ e => ?_), fun _ _ t3 ht3 => ?_⟩
                · rw [e] at hl
                  simp at hl
                  omega
                · have gg : Going p n4 H4 (upd H4 t2 (.tup vs)) := ⟨But.new ht2, let ⟨a, b, h⟩ := R.go.2; ⟨a, b, h.new ht2⟩⟩
                  exact row_term hn (by decide) (by decide) g3' R gg ht3 wu.str wu.leaf wu.fld (fun h => shapedW_cnt wu.leaf wu.fld wu.lst wu.cnt (by omega)) q
              · refine ⟨_, rfl, rfl, _, rfl, ite2 (fun _ => ?_) (fun _ => ?_)⟩
                · refine ⟨(by show 2 ≤ sizeLine; decide), fun l1 hl1 => ?_⟩
                  have g2 := g1.new (o := .lst [.str "not", .str "many"]) hl1
                  obtain ⟨x2, y2, hp2⟩ := g2.2
                  have nl1 := g1.ne hl1
                  refine ⟨_, rfl, p, x2, y2, n, 2, rfl, hp2, by decide, by decide, fun r x3 y3 r0 r1 hp3 => ?_⟩
                  have g3 := g2.trans (going_pot (But.refl p _) hp3)
                  obtain ⟨u, hu, hat⟩ := atI_strs (l := ["not", "many"]) r0 r1
                  have wu := words1 hu
                  refine ⟨l1, _, r, .str u, rfl, rfl, SqL.of ((But.refl p _).pot _ _ nl1 upd_same), hat, ?_⟩
                  refine ⟨_, rfl, _, rfl, p, x3, y3, n, m', rfl, hm', hp3, fun v d H2 n2 W h1 h2 h3 h4 h5 h6 h7 g4 => ⟨(by show 2 ≤ sizeLine; decide), fun t ht => ?_⟩⟩
                  have g5 := g3.trans g4
                  refine q _ (.tuple [.str u, d]) _ n2 (10 + 1 + (W + 1 + 0)) (by omega) (.inr (by rcases h2 with h2 | h2 <;> omega)) (by omega) ?_ (termB_node wu.leaf wu.fld (by show 1 ≤ 1; decide) (shapedW_cnt wu.leaf wu.fld wu.lst wu.cnt rfl) (by simp [h5])) (by simp [noL, noLs, h6]) (Dp.newT ht (g5.ne ht) (.cons (.str _) (.cons h7 .nil))) (g5.new ht)
                  exact Ok.tup (OkAll.cons wu.str (OkAll.cons h4 .nil)) (by show 2 ≤ 1000; decide)
                · refine ⟨(by show 7 ≤ sizeLine; decide), fun l1 hl1 => ?_⟩
                  have g2 := g1.new (o := .lst [.str "add", .str "less", .str "times", .str "under", .str "same", .str "both", .str "join"]) hl1
                  obtain ⟨x2, y2, hp2⟩ := g2.2
                  have nl1 := g1.ne hl1
                  refine ⟨_, rfl, p, x2, y2, n, 7, rfl, hp2, by decide, by decide, fun r x3 y3 r0 r1 hp3 => ?_⟩
                  have g3 := g2.trans (going_pot (But.refl p _) hp3)
                  obtain ⟨u, hu, hat⟩ := atI_strs (l := ["add", "less", "times", "under", "same", "both", "join"]) r0 r1
                  have wu := words2 hu
                  refine ⟨l1, _, r, .str u, rfl, rfl, SqL.of ((But.refl p _).pot _ _ nl1 upd_same), hat, ?_⟩
                  refine ⟨_, rfl, _, rfl, _, rfl, p, x3, y3, n, m', rfl, hm', hp3, fun v d H2 n2 W h1 h2 h3 h4 h5 h6 h7 g4 => ?_⟩
                  obtain ⟨x4, y4, hp4⟩ := g4.2
                  refine ⟨_, rfl, _, rfl, p, x4, y4, n2, m', rfl, hm', hp4, fun v' d' H3 n3 W' k1 k2 k3 k4 k5 k6 k7 g5 => ⟨(by show 3 ≤ sizeLine; decide), fun t ht => ?_⟩⟩
                  have g6 := g3.trans (g4.trans g5)
                  refine q _ (.tuple [.str u, d, d']) _ n3 (10 + 1 + (W + 1 + (W' + 1 + 0))) (by omega) (.inr (by rcases h2 with h2 | h2 <;> rcases k2 with k2 | k2 <;> omega)) (by omega) ?_ (termB_node wu.leaf wu.fld (by show 1 ≤ 2; decide) (shapedW_cnt wu.leaf wu.fld wu.lst wu.cnt rfl) (by simp [h5, k5])) (by simp [noL, noLs, h6, k6]) (Dp.newT ht (g6.ne ht) (.cons (.str _) (.cons (h7.but g5.1) (.cons k7 .nil)))) (g6.new ht)
                  exact Ok.tup (OkAll.cons wu.str (OkAll.cons h4 (OkAll.cons k4 .nil))) (by show 3 ≤ 1000; decide)
end
end K16
set_option Elab.async false
set_option linter.all false
set_option maxRecDepth 100000
set_option maxHeartbeats 4000000
namespace K16
open PySem PySem.Spec PyProof.Rows L2
open C8 (Cal Def cal0 pe_c fnBody fnScope fnArgs)
/-- a word of no leaf, no field: so many terms behind it -/
def manyB (u : Str) (k : Nat) : Bool := if u == "list" then decide (k ≤ 8) else match counts.lookup u with
  | some c => decide ((k : Int) = c)
  | none => false
theorem shapedW_many {u : Str} {ds : List PyData} (h0 : leafW u = false) (h1 : (u == ("field" : Str)) = false) : shapedW u ds = manyB u ds.length := by
  unfold shapedW manyB
  rw [h0, h1]
  rfl
theorem inV_strs {u : Str} {l : List Str} : inV (.str u) (l.map V.str) = true ↔ u ∈ l := by
  unfold inV
  rw [List.any_map, List.any_eq_true]
  constructor
  · rintro ⟨y, hy, e⟩
    have e' : (y == u) = true := e
    exact beq_iff_eq.mp e' ▸ hy
  · exact fun h => ⟨u, h, beq_self_eq_true u⟩
theorem counts_none {u : Str} (h1 : u ∉ (["not", "many"] : List Str)) (h2 : u ∉ (["pick", "at"] : List Str)) (h3 : u ∉ (["add", "less", "times", "under", "same", "both", "join"] : List Str)) : counts.lookup u = none := by
  simp only [List.mem_cons, List.not_mem_nil, or_false, not_or] at h1 h2 h3
  unfold counts
  simp only [List.lookup_cons, List.lookup_nil, beq_eq_false_iff_ne.mpr h1.1, beq_eq_false_iff_ne.mpr h1.2, beq_eq_false_iff_ne.mpr h2.1, beq_eq_false_iff_ne.mpr h2.2, beq_eq_false_iff_ne.mpr h3.1, beq_eq_false_iff_ne.mpr h3.2.1, beq_eq_false_iff_ne.mpr h3.2.2.1,
    beq_eq_false_iff_ne.mpr h3.2.2.2.1, beq_eq_false_iff_ne.mpr h3.2.2.2.2.1, beq_eq_false_iff_ne.mpr h3.2.2.2.2.2.1, beq_eq_false_iff_ne.mpr h3.2.2.2.2.2.2]
theorem manyB_cnt {u : Str} {c : Int} {k : Nat} (w : Word u c) : manyB u k = decide ((k : Int) = c) := by
  unfold manyB
  rw [w.lst, w.cnt]
  rfl
theorem dec_vint {a b : Int} : decide (V.int a = V.int b) = decide (a = b) := by
  rw [Bool.eq_iff_iff, decide_eq_true_eq, decide_eq_true_eq]
  exact ⟨V.int.inj, congrArg _⟩
section
variable {P : Program} {w : World} {K : PySem.W.Frag} {mg : Str → Option Value} {base : Heap}
abbrev sLMany : Stmt := topS 28
abbrev NLMany : List Str := ["_law_word", "_law_many_here"]
theorem scLMany : FnScope NLMany ["_law_word", "_law_many_here"] (fnScope sLMany) := ⟨rfl, rfl, rfl, by decide +kernel, rfl, by decide +kernel, by decide +kernel⟩
def spMany : Sp := fun vs H Q _ => ∃ (u : Str) (k : Nat), vs = [.str u, .int (k : Int)] ∧ 1 ≤ k ∧ ∀ H', Same H H' → Q (.bl (manyB u k)) H'
theorem c_many (T : Tp mg) {f : Addr} {fd : FuncData} (D : Def K mg "_law_many" sLMany f fd) (b : Binds K fd ["_law_word", "_law_many_here"] []) : Cal P w K mg base 1 "_law_many" spMany [] := by
  refine cal0 D b .nil scLMany (fun vs H Q E h => ?_) (fun cdv A outer s H vs Q E hr h => ?_)
  · obtain ⟨u, k, rfl, _⟩ := h
    rfl
  · obtain ⟨u, k, rfl, hk, q⟩ := h
    refine ⟨_, (pss_cons (ps_if (pt_cmpR op_eq (pv 0) pe_str (nomark _))
      (pss_one (ps_ret (pe_chain op_le op_le pe_int (pv 1) pe_int)))
      pss_nil)
    (pss_cons (ps_if (pt_cmpR op_in_seq (pv 0) (pe_lst (pa_cons pe_str (pa_cons pe_str pa_nil))) (by rfl))
      (pss_one (ps_ret (pe_cmpR op_eq (pv 1) pe_int (nomark _))))
      pss_nil)
    (pss_cons (ps_if (pt_cmpR op_in_seq (pv 0) (pe_lst (pa_cons pe_str (pa_cons pe_str pa_nil))) (by rfl))
      (pss_one (ps_ret (pe_cmpR op_eq (pv 1) pe_int (nomark _))))
      pss_nil)
    (pss_one (ps_ret (pe_and (pe_cmpR op_in_seq (pv 0) (pe_lst (pa_cons pe_str (pa_cons pe_str (pa_cons pe_str (pa_cons pe_str (pa_cons pe_str (pa_cons pe_str (pa_cons pe_str pa_nil)))))))) (by rfl)) (pe_one (pe_cmpR op_eq (pv 1) pe_int (nomark _))))))))), ?_⟩
    refine ⟨_, rfl, rfl, _, rfl, ?_⟩
    rw [dec_str]
    refine ite2 (fun e => ?_) (fun e => ?_)
    · have q0 := q H (Same.refl H)
      refine ⟨_, rfl, _, _, rfl, rfl, _, rfl, iteT' (decide_eq_true (by omega)) ?_⟩
      refine ⟨_, _, rfl, rfl, ?_⟩
      have ee : manyB u k = decide ((k : Int) ≤ 8) := by
        unfold manyB
        rw [if_pos e, Bool.eq_iff_iff, decide_eq_true_eq, decide_eq_true_eq]
        omega
      rw [ee] at q0
      exact q0
    · refine ⟨_, rfl, (by show 2 ≤ sizeLine; decide), fun l1 hl1 => ?_⟩
      have s1 : Same H (upd H l1 (.lst [.str "not", .str "many"])) := Same.new hl1
      refine ⟨l1, _, rfl, .inl (SqL.of upd_same), rfl, rfl, _, rfl, ?_⟩
      show if (inV (.str u) (((["not", "many"] : List Str)).map V.str)) = true then _ else _
      refine ite2 (fun e1 => ?_) (fun e1 => ?_)
      · have q0 := q _ s1
        rw [manyB_cnt (words1 (inV_strs.mp e1))] at q0
        refine ⟨_, rfl, rfl, ?_⟩
        show Q (.bl (decide (V.int (k : Int) = V.int 1))) _
        rw [dec_vint]
        exact q0
      · refine ⟨_, rfl, (by show 2 ≤ sizeLine; decide), fun l2 hl2 => ?_⟩
        have s2 := s1.trans (Same.new (o := .lst [.str "pick", .str "at"]) hl2)
        refine ⟨l2, _, rfl, .inl (SqL.of upd_same), rfl, rfl, _, rfl, ?_⟩
        show if (inV (.str u) (((["pick", "at"] : List Str)).map V.str)) = true then _ else _
        refine ite2 (fun e2 => ?_) (fun e2 => ?_)
        · have q0 := q _ s2
          rw [manyB_cnt (words3 (inV_strs.mp e2))] at q0
          refine ⟨_, rfl, rfl, ?_⟩
          show Q (.bl (decide (V.int (k : Int) = V.int 3))) _
          rw [dec_vint]
          exact q0
        · refine ⟨_, rfl, (by show 7 ≤ sizeLine; decide), fun l3 hl3 => ?_⟩
          have s3 := s2.trans (Same.new (o := .lst [.str "add", .str "less", .str "times", .str "under", .str "same", .str "both", .str "join"]) hl3)
          have q0 := q _ s3
          refine ⟨l3, _, rfl, .inl (SqL.of upd_same), rfl, rfl, _, rfl, ?_⟩
          show if (inV (.str u) (((["add", "less", "times", "under", "same", "both", "join"] : List Str)).map V.str)) = true then _ else _
          refine ite2 (fun e3 => ?_) (fun e3 => ?_)
          · rw [manyB_cnt (words2 (inV_strs.mp e3))] at q0
            refine ⟨_, rfl, rfl, ?_⟩
            show Q (.bl (decide (V.int (k : Int) = V.int 2))) _
            rw [dec_vint]
            exact q0
          · have ee : manyB u k = false := by
              unfold manyB
              rw [if_neg e, counts_none (fun h => e1 (inV_strs.mpr h)) (fun h => e2 (inV_strs.mpr h)) (fun h => e3 (inV_strs.mpr h))]
            rw [ee] at q0
            exact q0
abbrev sLIsLeaf : Stmt := topS 29
abbrev NLIsLeaf : List Str := ["_law_word", "_law_part"]
theorem scLIsLeaf : FnScope NLIsLeaf ["_law_word", "_law_part"] (fnScope sLIsLeaf) := ⟨rfl, rfl, rfl, by decide +kernel, rfl, by decide +kernel, by decide +kernel⟩
def spLeaf2 (K : PySem.W.Frag) : Sp := fun vs H Q _ => ∃ u v d, vs = [.str u, v] ∧ Dp K H v d ∧ short d = true ∧ d.canLay0 = true ∧ d.depth < 11 ∧ ∀ H', Same H H' → Q (.bl (leafB u d)) H'
theorem c_lisLeaf (T : Tp mg) (c_LIsKind : Cal P w K mg base 12 "_law_is_kind" (spLook2 K kindB 11) []) (c_LIsName : Cal P w K mg base 1 "_law_is_name" (spLook2 K nameB 64) []) {f : Addr} {fd : FuncData} (D : Def K mg "_law_is_leaf" sLIsLeaf f fd) (b : Binds K fd ["_law_word", "_law_part"] []) :
    Cal P w K mg base 13 "_law_is_leaf" (spLeaf2 K) [] := by
  refine cal0 D b .nil scLIsLeaf (fun vs H Q E h => ?_) (fun cdv A outer s H vs Q E hr h => ?_)
  · obtain ⟨u, v, d, rfl, _⟩ := h
    rfl
  · obtain ⟨u, v, d, rfl, hd, hs, hcl, hdep, q⟩ := h
    refine ⟨_, (pss_cons (ps_if (pt_cmpR op_eq (pv 0) pe_str (nomark _))
      (pss_one (ps_ret (pe_and (pe_callB call_isD (by rfl) T.n_isinstance (by decide +kernel) (pa_cons (pv 1) (pa_cons (pe_bltn (v := .ty "int") (by rfl) T.n_int (by decide +kernel) rfl) pa_nil))) (pe_and (pe_not (pe_callB call_isD (by rfl) T.n_isinstance (by decide +kernel) (pa_cons (pv 1) (pa_cons (pe_bltn (v := .ty "bool") (by rfl) T.n_bool (by decide +kernel) rfl) pa_nil)))) (pe_one (pe_chain op_le op_lt pe_int (pv 1) (pe_op op_pow pe_int pe_int)))))))
      pss_nil)
    (pss_cons (ps_if (pt_cmpR op_eq (pv 0) pe_str (nomark _))
      (pss_one (ps_ret (pe_callB call_isD (by rfl) T.n_isinstance (by decide +kernel) (pa_cons (pv 1) (pa_cons (pe_bltn (v := .ty "bool") (by rfl) T.n_bool (by decide +kernel) rfl) pa_nil)))))
      pss_nil)
    (pss_cons (ps_if (pt_cmpR op_eq (pv 0) pe_str (nomark _))
      (pss_one (ps_ret (pe_c c_LIsKind hr (by decide) (by rfl) (pa_cons (pv 1) pa_nil))))
      pss_nil)
    (pss_one (ps_ret (pe_c c_LIsName hr (by decide) (by rfl) (pa_cons (pv 1) pa_nil))))))), ?_⟩
    unfold leafB at q
    refine ⟨_, rfl, rfl, _, rfl, ?_⟩
    rw [dec_str]
    refine ite2 (fun e => ?_) (fun e => ?_)
    · rw [if_pos e] at q
      have q0 := q H (Same.refl H)
      refine ⟨_, rfl, v, d, "int", rfl, hd, by decide, _, rfl, ?_⟩
      cases hd with
      | int i =>
        refine iteT ?_
        refine ⟨_, rfl, _, _, "bool", rfl, .int i, by decide, _, rfl, _, rfl, iteT ?_⟩
        refine ⟨_, rfl, _, _, rfl, rfl, _, rfl, ite2 (fun e => ?_) (fun e => ?_)⟩
        · refine ⟨_, _, rfl, rfl, (by show (0 : Int) ≤ 12 ∧ _; decide), _, _, rfl, rfl, ?_⟩
          have e12 : (10 : Int) ^ (12 : Int).toNat = 1000000000000 := by decide
          rw [e12]
          have e1 : numB (.int i) = decide (i < 1000000000000) := by
            show (decide (0 ≤ i) && decide (i < 1000000000000)) = _
            rw [e, Bool.true_and]
          rw [e1] at q0
          exact q0
        · have e1 : numB (.int i) = false := by
            show (decide (0 ≤ i) && decide (i < 1000000000000)) = _
            rw [eq_false_of_ne_true e, Bool.false_and]
          rw [e1] at q0
          exact q0
      | bl bb =>
        refine iteT ?_
        exact ⟨_, rfl, _, _, "bool", rfl, .bl bb, by decide, _, rfl, _, rfl, iteF q0⟩
      | _ => exact iteF q0
    · rw [if_neg e] at q
      refine ⟨_, rfl, rfl, _, rfl, ?_⟩
      rw [dec_str]
      refine ite2 (fun e => ?_) (fun e => ?_)
      · rw [if_pos e] at q
        exact ⟨_, rfl, v, d, "bool", rfl, hd, by decide, q H (Same.refl H)⟩
      · rw [if_neg e] at q
        refine ⟨_, rfl, rfl, _, rfl, ?_⟩
        rw [dec_str]
        refine ite2 (fun e => ?_) (fun e => ?_)
        · rw [if_pos e] at q
          exact ⟨_, rfl, v, d, rfl, hd, hs, hcl, hdep, by decide, q⟩
        · rw [if_neg e] at q
          exact ⟨_, rfl, v, d, rfl, hd, hs, hcl, by omega, by decide, q⟩
abbrev sLWithin : Stmt := topS 31
abbrev NLWithin : List Str := ["_law_term_here"]
theorem scLWithin : FnScope NLWithin ["_law_term_here"] (fnScope sLWithin) := ⟨rfl, rfl, rfl, by decide +kernel, rfl, by decide +kernel, by decide +kernel⟩
theorem leafW_perm (u : Str) : inV (.str u) [.str "number", .str "truth", .str "empty", .str "name", .str "box"] = leafW u := by
  rw [Bool.eq_iff_iff]
  have h1 := inV_strs (u := u) (l := ["number", "truth", "empty", "name", "box"])
  have h2 := inV_strs (u := u) (l := ["number", "truth", "name", "box", "empty"])
  refine Iff.trans h1 (Iff.trans ?_ h2.symm)
  simp only [List.mem_cons, List.not_mem_nil, or_false]
  constructor
  · rintro (h | h | h | h | h) <;> simp [h]
  · rintro (h | h | h | h | h) <;> simp [h]
theorem c_within (T : Tp mg) {f : Addr} {fd : FuncData} (D : Def K mg "_law_within" sLWithin f fd) (b : Binds K fd ["_law_term_here"] []) : Cal P w K mg base 1 "_law_within" (spParts K) [] := by
  refine cal0 D b .nil scLWithin (fun vs H Q E h => ?_) (fun cdv A outer s H vs Q E hr h => ?_)
  · obtain ⟨a, u, vr, rfl, _⟩ := h
    rfl
  · obtain ⟨a, u, vr, rfl, hq, h1, h2, q⟩ := h
    refine ⟨_, (pss_cons (ps_if (pt_cmpR op_in_seq (pe_ix ix_tup (pv 0) pe_int (fun _ _ => rfl)) (pe_lst (pa_cons pe_str (pa_cons pe_str (pa_cons pe_str (pa_cons pe_str (pa_cons pe_str pa_nil)))))) (by rfl))
      (pss_one (ps_ret (pe_lst pa_nil)))
      pss_nil)
    (pss_cons (ps_if (pt_cmpR op_eq (pe_ix ix_tup (pv 0) pe_int (fun _ _ => rfl)) pe_str (nomark _))
      (pss_one (ps_ret (pe_lst (pa_cons (pe_ix ix_tup (pv 0) pe_int (fun _ _ => rfl)) pa_nil))))
      pss_nil)
    (pss_one (ps_ret (pe_callTy call_list_of (by rfl) T.n_list (by decide +kernel) (pa_cons (pe_slice sl_tupA (pv 0) (po_some pe_int) po_none) pa_nil)))))), ?_⟩
    unfold selW at q
    refine ⟨_, rfl, a, _, _, .str u, rfl, rfl, hq, atI_nat (j := 0) rfl, (by show 5 ≤ sizeLine; decide), fun l1 hl1 => ?_⟩
    have s1 : Same H (upd H l1 (.lst [.str "number", .str "truth", .str "empty", .str "name", .str "box"])) := Same.new hl1
    have hq' := sqT_mono s1 hq
    refine ⟨l1, _, rfl, .inl (SqL.of upd_same), rfl, rfl, _, rfl, ?_⟩
    rw [leafW_perm]
    show if (leafW u) = true then _ else _
    refine ite2 (fun e => ?_) (fun e => ?_)
    · rw [if_pos e] at q
      exact ⟨(by show 0 ≤ sizeLine; decide), fun l hl => q l _ (s1.free hl) (s1.trans (Same.new hl)) upd_same⟩
    · rw [if_neg e] at q
      refine ⟨_, rfl, a, _, _, .str u, rfl, rfl, hq', atI_nat (j := 0) rfl, rfl, _, rfl, ?_⟩
      rw [dec_str]
      refine ite2 (fun e2 => ?_) (fun e2 => ?_)
      · rw [if_pos e2] at q
        cases vr with
        | nil => exact absurd h1 (by decide)
        | cons v1 vr2 =>
          refine ⟨_, rfl, a, _, _, v1, rfl, rfl, hq', atI_nat (j := 1) rfl, (by show 1 ≤ sizeLine; decide), fun l hl => q l _ (s1.free hl) (s1.trans (Same.new hl)) upd_same⟩
      · rw [if_neg e2] at q
        refine ⟨_, rfl, 1, rfl, ?_⟩
        refine slice_tail (Q := fun x H1 => ∃ p ys, [x] = [V.ref p] ∧ (SqL K H1 p ys ∨ SqT K H1 p ys) ∧ ∀ l, H1 l = none → Q (V.ref l) (upd H1 l (.lst ys))) hq' fun p hp => ⟨p, vr, rfl, .inr (SqT.of upd_same), fun l hl => ?_⟩
        exact q l _ (s1.free ((Same.new hp).free hl)) ((s1.trans (Same.new hp)).trans (Same.new hl)) upd_same
end
end K16
set_option Elab.async false
set_option linter.all false
set_option maxRecDepth 100000
set_option maxHeartbeats 4000000
namespace K16
open PySem PySem.Spec PyProof.Rows L2
open C8 (Cal Def cal0 pe_c fnBody fnScope fnArgs)
theorem lay_all : ∀ {ds : List PyData} {i : Nat} {d : PyData}, PyData.canLayAll0 ds = true → ds[i]? = some d → d.canLay0 = true
  | [], i, d, _, e => by simp at e
  | x :: xs, 0, d, h, e => by
    have h' : x.canLay0 = true ∧ PyData.canLayAll0 xs = true := by simpa [PyData.canLayAll0] using h
    simp at e
    rw [← e]
    exact h'.1
  | x :: xs, i + 1, d, h, e => by
    have h' : x.canLay0 = true ∧ PyData.canLayAll0 xs = true := by simpa [PyData.canLayAll0] using h
    exact lay_all (i := i) h'.2 (by simpa using e)
theorem depth_all : ∀ {ds : List PyData} {i : Nat} {d : PyData}, ds[i]? = some d → d.depth ≤ PyData.depthAll ds
  | [], i, d, e => by simp at e
  | x :: xs, 0, d, e => by
    simp at e
    rw [← e, PyData.depthAll]
    exact Nat.le_max_left _ _
  | x :: xs, i + 1, d, e => by
    have := depth_all (ds := xs) (i := i) (d := d) (by simpa using e)
    rw [PyData.depthAll]
    exact Nat.le_trans this (Nat.le_max_right _ _)
def bads (ds : List PyData) : List PyData := ds.filter fun d => !termB d
theorem bads_lay : ∀ {ds : List PyData}, PyData.canLayAll0 ds = true → PyData.canLayAll0 (bads ds) = true
  | [], _ => by simp [bads, PyData.canLayAll0]
  | d :: ds, h => by
    have h' : d.canLay0 = true ∧ PyData.canLayAll0 ds = true := by simpa [PyData.canLayAll0] using h
    have ih := bads_lay h'.2
    unfold bads at ih ⊢
    rw [List.filter_cons]
    split
    · simp only [PyData.canLayAll0, h'.1, ih, Bool.and_self]
    · exact ih
theorem bads_depth : ∀ {ds : List PyData}, PyData.depthAll (bads ds) ≤ PyData.depthAll ds
  | [] => Nat.le_refl _
  | d :: ds => by
    have ih := bads_depth (ds := ds)
    unfold bads at ih ⊢
    rw [List.filter_cons]
    split
    · simp only [PyData.depthAll]
      omega
    · simp only [PyData.depthAll]
      omega
theorem bads_eqv : ∀ (ds : List PyData), PyData.eqvAll (bads ds) [] = ds.all termB
  | [] => by simp [bads, PyData.eqvAll]
  | d :: ds => by
    have ih := bads_eqv ds
    unfold bads at ih ⊢
    rw [List.filter_cons, List.all_cons]
    cases h : termB d with
    | true => exact (by simpa using ih)
    | false => simp [PyData.eqvAll]
section
variable {P : Program} {w : World} {K : PySem.W.Frag} {mg : Str → Option Value} {base : Heap}
theorem cut_one (x : V) (vr : List V) : HT.sIx (x :: vr).length 0 (some 1) = 1 := by
  rw [show HT.sIx (x :: vr).length 0 (some 1) = min 1 (x :: vr).length from HT.sIx_nat (x :: vr).length 0 1, List.length_cons]
  omega
theorem cut_tail (x : V) (vr : List V) : cutV (x :: vr) (some 1) none = vr := by
  unfold cutV
  rw [cut_one, HT.sIx_none]
  exact List.take_of_length_le (by simp)
def badV (vs : List V) (ds : List PyData) : List V := ((vs.zip ds).filter fun q => !termB q.2).map Prod.fst
theorem bad_dp {H : Hp} : ∀ {vs : List V} {ds : List PyData}, DpAll K H vs ds → DpAll K H (badV vs ds) (bads ds)
  | _, _, .nil => .nil
  | v :: vs, d :: ds, .cons h t => by
    have ih := bad_dp t
    unfold badV bads at ih ⊢
    rw [List.zip_cons_cons, List.filter_cons, List.filter_cons]
    by_cases e : (!termB d) = true
    · rw [if_pos e, if_pos e]
      exact .cons h ih
    · rw [if_neg e, if_neg e]
      exact ih
theorem badV_succ {vs : List V} {ds : List PyData} {i : Nat} {v : V} {d : PyData} (hv : vs[i]? = some v) (hd : ds[i]? = some d) : badV (vs.take (i + 1)) (ds.take (i + 1)) = badV (vs.take i) (ds.take i) ++ (if termB d then [] else [v]) := by
  have hlt : i < vs.length := (List.getElem?_eq_some_iff.mp hv).1
  have hlt2 : i < ds.length := (List.getElem?_eq_some_iff.mp hd).1
  unfold badV
  rw [List.take_add_one, List.take_add_one, hv, hd, List.zip_append (by rw [List.length_take, List.length_take]; omega), List.filter_append, List.map_append]
  congr 1
  cases h : termB d <;> simp [h]
theorem badV_len (vs : List V) (ds : List PyData) : (badV vs ds).length ≤ vs.length := by
  unfold badV
  rw [List.length_map]
  refine Nat.le_trans (List.length_filter_le _ _) ?_
  rw [List.length_zip]
  omega
theorem dp_at {H : Hp} : ∀ {vs : List V} {ds : List PyData} {i : Nat} {v : V}, DpAll K H vs ds → vs[i]? = some v → ∃ d, ds[i]? = some d ∧ Dp K H v d
  | _, _, i, v, .nil, e => by simp at e
  | _, _, 0, v, .cons h t, e => by
    simp at e
    exact ⟨_, rfl, e ▸ h⟩
  | _, _, i + 1, v, .cons h t, e => by
    obtain ⟨d, h1, h2⟩ := dp_at (i := i) t (by simpa using e)
    exact ⟨d, by simpa using h1, h2⟩
abbrev sLIsTerm : Stmt := topS 30
abbrev NLIsTerm : List Str := ["_law_thing", "_law_part"]
theorem scLIsTerm : FnScope NLIsTerm ["_law_thing"] (fnScope sLIsTerm) := ⟨rfl, rfl, rfl, by decide +kernel, rfl, by decide +kernel, by decide +kernel⟩
def spTerm2 (K : PySem.W.Frag) (n : Nat) : Sp := fun vs H Q _ => ∃ v d, vs = [v] ∧ Dp K H v d ∧ short d = true ∧ d.canLay0 = true ∧ d.depth < n ∧ n ≤ 12 ∧ ∀ H', Same H H' → Q (.bl (termB d)) H'
theorem c_lisTerm (T : Tp mg) (c_LIsLeaf : Cal P w K mg base 13 "_law_is_leaf" (spLeaf2 K) []) (c_LIsName : Cal P w K mg base 1 "_law_is_name" (spLook2 K nameB 64) []) (c_LMany : Cal P w K mg base 1 "_law_many" spMany [])
    {f : Addr} {fd : FuncData} (D : Def K mg "_law_is_term" sLIsTerm f fd) (b : Binds K fd ["_law_thing"] []) :
    ∀ n : Nat, Cal P w K mg base (13 + n) "_law_is_term" (spTerm2 K n) []
  | 0 => cal_no _ (fun vs H Q E ⟨v, d, _, _, _, _, h, _⟩ => absurd h (Nat.not_lt_zero _)) D b
  | n + 1 => by
    have c_LIsTerm := c_lisTerm T c_LIsLeaf c_LIsName c_LMany D b n
    refine cal0 D b .nil scLIsTerm (fun vs H Q E h => ?_) (fun cdv A outer s H vs Q E hr h => ?_)
    · obtain ⟨v, d, rfl, _⟩ := h
      rfl
    · obtain ⟨v, d, rfl, hd, hs, hcl, hdep, hn, q⟩ := h
      have nd := scLIsTerm.nd
      have hr := (show Room (13 + n) _ from hr)
      refine ⟨_, (pss_cons (ps_if (PW.pt (pw_or (pt_not (pt_val (pe_callB call_isD (by rfl) T.n_isinstance (by decide +kernel) (pa_cons (pv 0) (pa_cons (pe_bltn (v := .ty "tuple") (by rfl) T.n_tuple (by decide +kernel) rfl) pa_nil))))) (pw_or (pt_cmpR op_lt (pe_callB call_len_seq (by rfl) T.n_len (by decide +kernel) (pa_cons (pv 0) pa_nil)) pe_int (nomark _)) (pw_or1 (pt_not (pt_val (pe_callB call_isD (by rfl) T.n_isinstance (by decide +kernel) (pa_cons (pe_ix ix_tup (pv 0) pe_int (fun _ _ => rfl)) (pa_cons (pe_bltn (v := .ty "str") (by rfl) T.n_str (by decide +kernel) rfl) pa_nil)))))))))
      (pss_one (ps_ret pe_bl))
      pss_nil)
    (pss_cons (ps_if (pt_cmpR op_in_seq (pe_ix ix_tup (pv 0) pe_int (fun _ _ => rfl)) (pe_lst (pa_cons pe_str (pa_cons pe_str (pa_cons pe_str (pa_cons pe_str (pa_cons pe_str pa_nil)))))) (by rfl))
      (pss_one (ps_ret (pe_and (pe_cmpR op_eq (pe_callB call_len_seq (by rfl) T.n_len (by decide +kernel) (pa_cons (pv 0) pa_nil)) pe_int (nomark _)) (pe_one (pe_c c_LIsLeaf hr (by omega) (by rfl) (pa_cons (pe_ix ix_tup (pv 0) pe_int (fun _ _ => rfl)) (pa_cons (pe_ix ix_tup (pv 0) pe_int (fun _ _ => rfl)) pa_nil)))))))
      pss_nil)
    (pss_cons (ps_if (pt_cmpR op_eq (pe_ix ix_tup (pv 0) pe_int (fun _ _ => rfl)) pe_str (nomark _))
      (pss_one (ps_ret (pe_and (pe_cmpR op_eq (pe_callB call_len_seq (by rfl) T.n_len (by decide +kernel) (pa_cons (pv 0) pa_nil)) pe_int (nomark _)) (pe_and (pe_c c_LIsTerm hr (Nat.le_refl _) (by rfl) (pa_cons (pe_ix ix_tup (pv 0) pe_int (fun _ _ => rfl)) pa_nil)) (pe_one (pe_c c_LIsName hr (by omega) (by rfl) (pa_cons (pe_ix ix_tup (pv 0) pe_int (fun _ _ => rfl)) pa_nil)))))))
      pss_nil)
    (pss_cons (ps_if (pt_not (pt_val (pe_c c_LMany hr (by omega) (by rfl) (pa_cons (pe_ix ix_tup (pv 0) pe_int (fun _ _ => rfl)) (pa_cons (pe_op op_sub (pe_callB call_len_seq (by rfl) T.n_len (by decide +kernel) (pa_cons (pv 0) pa_nil)) pe_int) pa_nil)))))
      (pss_one (ps_ret pe_bl))
      pss_nil)
    (pss_one (ps_ret (pe_cmpR (op_eqD hr.units) (pe_lc (own := [("_law_part", 1)]) (g := gName 1) (by rfl) nd (pi_tup (pe_slice sl_tupA (pv 0) (po_some pe_int) po_none)) (blkOk_by (own := [("_law_part", 1)]) (N := NLIsTerm) (sc := fnScope sLIsTerm) (by decide +kernel)) (fun _ _ _ _ _ => pg_name (i := 1) nd rfl (Or.inl rfl)) (fun _ _ _ _ _ => (pts_one (pt_not (pt_val (pe_c c_LIsTerm hr (Nat.le_refl _) (by rfl) (pa_cons (pv 1) pa_nil)))))) (fun _ _ _ _ _ => (pv 1))) (pe_lst pa_nil) (nomark _)))))))), ?_⟩
      have q0 := q H (Same.refl H)
      refine ⟨_, rfl, v, d, "tuple", rfl, hd, by decide, _, rfl, ?_⟩
      cases hd with
      | @tup a xs ds hq ha =>
        refine iteF ?_
        have hlen := ha.len
        refine ⟨_, rfl, a, xs, rfl, .inr hq, _, _, rfl, rfl, _, rfl, ite2 (fun e => ?_) (fun e => ?_)⟩
        · have e1 : ((xs.length : Nat) : Int) < 2 := of_decide_eq_true e
          have hf : shapedB (.tuple ds) = false := by
            cases ds with
            | nil => rfl
            | cons x rest =>
              cases rest with
              | nil => cases x <;> rfl
              | cons y r => simp at hlen; omega
          rw [termB_eq, hf, Bool.false_and] at q0
          exact iteT q0
        · have e1 : ¬ ((xs.length : Nat) : Int) < 2 := fun h => e (decide_eq_true h)
          obtain ⟨x, rest, rfl, hr1⟩ := head_of (show 2 ≤ ds.length by omega)
          obtain ⟨v0, vr, rfl, h0, hrd⟩ := dpAll_head ha
          have hvr : vr.length = rest.length := hrd.len
          have hsl := (short_all hs).1
          have hsa := (short_all hs).2
          have hsr : shortAll rest = true := by
            have h' : short x = true ∧ shortAll rest = true := by simpa [shortAll] using hsa
            exact h'.2
          have hcr : PyData.canLayAll0 rest = true := by
            have h' : x.canLay0 = true ∧ PyData.canLayAll0 rest = true := by simpa [PyData.canLay0, PyData.canLayAll0] using hcl
            exact h'.2
          have hdr : PyData.depthAll rest < n := by
            rw [PyData.depth, PyData.depthAll] at hdep
            omega
          have line := sizeLine_eq
          rw [List.length_cons] at hsl
          refine ⟨_, rfl, a, _, _, v0, rfl, rfl, hq, atI_nat (j := 0) rfl, v0, x, "str", rfl, h0, by decide, _, rfl, ?_⟩
          cases h0 with
          | str u =>
            refine iteF ?_
            have qw : ∀ H', Same H H' → Q (.bl (shapedW u rest && (selW u rest).all termB)) H' := fun H' s' => by
              have q1 := q H' s'
              have ee : termB (.tuple (.str u :: rest)) = (shapedW u rest && (selW u rest).all termB) := by
                rw [termB_eq]
                show ((decide (1 ≤ rest.length) && shapedW u rest) && (selW u rest).all termB) = _
                rw [decide_eq_true hr1, Bool.true_and]
              rw [ee] at q1
              exact q1
            refine ⟨_, rfl, a, _, _, .str u, rfl, rfl, hq, atI_nat (j := 0) rfl, (by show 5 ≤ sizeLine; decide), fun l1 hl1 => ?_⟩
            have s1 : Same H (upd H l1 (.lst [.str "number", .str "truth", .str "empty", .str "name", .str "box"])) := Same.new hl1
            have hq1 := sqT_mono s1 hq
            refine ⟨l1, _, rfl, .inl (SqL.of upd_same), rfl, rfl, _, rfl, ?_⟩
            rw [leafW_perm]
            show if (leafW u) = true then _ else _
            refine ite2 (fun e2 => ?_) (fun e2 => ?_)
            · have hsel : selW u rest = [] := by unfold selW; rw [if_pos e2]
              unfold shapedW at qw
              rw [if_pos e2, hsel] at qw
              refine ⟨_, rfl, a, _, rfl, .inr hq1, rfl, _, rfl, ite2 (fun e3 => ?_) (fun e3 => ?_)⟩
              · have e4 : rest.length = 1 := by
                  have := V.int.inj (of_decide_eq_true e3)
                  simp at this
                  omega
                rw [decide_eq_true e4, Bool.true_and] at qw
                obtain ⟨r0, rfl⟩ := one_of e4
                obtain ⟨w0, rfl, g0⟩ := hrd.one
                refine ⟨_, rfl, a, _, _, .str u, rfl, rfl, hq1, atI_nat (j := 0) rfl, _, rfl, a, _, _, w0, rfl, rfl, hq1, atI_nat (j := 1) rfl, u, w0, r0, rfl, g0.mono s1, short_mem (i := 0) hsr rfl, lay_all (i := 0) hcr rfl, ?_, fun H2 s2 => ?_⟩
                · have := depth_all (ds := [r0]) (i := 0) rfl
                  omega
                · have q1 := qw H2 (s1.trans s2)
                  simpa using q1
              · have e5 : ¬ rest.length = 1 := fun h => e3 (decide_eq_true (by rw [List.length_cons, hvr, h]; rfl))
                have q1 := qw _ s1
                rw [decide_eq_false e5, Bool.false_and, Bool.false_and] at q1
                exact q1
            · have e2' : leafW u = false := eq_false_of_ne_true e2
              refine ⟨_, rfl, a, _, _, .str u, rfl, rfl, hq1, atI_nat (j := 0) rfl, rfl, _, rfl, ?_⟩
              rw [dec_str]
              refine ite2 (fun e3 => ?_) (fun e3 => ?_)
              · have hsel : selW u rest = rest.take 1 := by unfold selW; rw [if_neg e2, if_pos e3]
                unfold shapedW at qw
                rw [if_neg e2, if_pos e3, hsel] at qw
                refine ⟨_, rfl, a, _, rfl, .inr hq1, rfl, _, rfl, ite2 (fun e4 => ?_) (fun e4 => ?_)⟩
                · have e5 : rest.length = 2 := by
                    have := V.int.inj (of_decide_eq_true e4)
                    simp at this
                    omega
                  rw [decide_eq_true e5, Bool.true_and] at qw
                  obtain ⟨r0, r1, rfl⟩ := two_of e5
                  obtain ⟨w1, w2, rfl, g1, g2⟩ := hrd.two
                  have d0 := depth_all (ds := [r0, r1]) (i := 0) rfl
                  have d1 := depth_all (ds := [r0, r1]) (i := 1) rfl
                  refine ⟨_, rfl, a, _, _, w1, rfl, rfl, hq1, atI_nat (j := 1) rfl, w1, r0, rfl, g1.mono s1, short_mem (i := 0) hsr rfl, lay_all (i := 0) hcr rfl, by omega, by omega, fun H2 s2 => ⟨_, rfl, ?_⟩⟩
                  have qq : ∀ H3, Same H2 H3 → Q (.bl (nameB r1 && termB r0)) H3 := fun H3 s3 => by
                    have q1 := qw H3 ((s1.trans s2).trans s3)
                    simpa using q1
                  cases ht : termB r0 with
                  | true =>
                    rw [ht] at qq
                    refine iteT ?_
                    refine ⟨_, rfl, a, _, _, w2, rfl, rfl, sqT_mono s2 hq1, atI_nat (j := 2) rfl, w2, r1, rfl, (g2.mono s1).mono s2, short_mem (i := 1) hsr rfl, lay_all (i := 1) hcr rfl, by omega, by decide, fun H3 s3 => ?_⟩
                    have q1 := qq H3 s3
                    rw [Bool.and_true] at q1
                    exact q1
                  | false =>
                    rw [ht] at qq
                    have q1 := qq H2 (Same.refl H2)
                    rw [Bool.and_false] at q1
                    exact iteF q1
                · have e5 : ¬ rest.length = 2 := fun h => e4 (decide_eq_true (by rw [List.length_cons, hvr, h]; rfl))
                  have q1 := qw _ s1
                  rw [decide_eq_false e5, Bool.false_and, Bool.false_and] at q1
                  exact q1
              · have e3' : (u == ("field" : Str)) = false := eq_false_of_ne_true e3
                have hsel : selW u rest = rest := by unfold selW; rw [if_neg e2, if_neg e3]
                rw [shapedW_many e2' e3', hsel] at qw
                refine ⟨_, rfl, a, _, _, .str u, rfl, rfl, hq1, atI_nat (j := 0) rfl, _, rfl, a, _, rfl, .inr hq1, _, _, rfl, rfl, u, rest.length, ?_, hr1, fun H2 s2 => ⟨_, rfl, ?_⟩⟩
                · rw [List.length_cons, hvr]
                  show [V.str u, V.int (((rest.length + 1 : Nat) : Int) - 1)] = _
                  rw [show ((rest.length + 1 : Nat) : Int) - 1 = (rest.length : Int) by omega]
                have s12 := s1.trans s2
                cases hm : manyB u rest.length with
                | false =>
                  rw [hm] at qw
                  have q1 := qw H2 s12
                  rw [Bool.false_and] at q1
                  exact iteT q1
                | true =>
                  rw [hm] at qw
                  refine iteF ?_
                  refine ⟨_, rfl, 1, rfl, ?_⟩
                  refine ⟨a, .str u :: vr, rfl, sqT_mono s12 hq, fun h => absurd h.1 (by rw [cut_one]; decide), fun _ t ht => ?_⟩
                  rw [cut_tail]
                  have s3 := s12.trans (Same.new (o := .tup vr) ht)
                  refine ⟨t, rfl, ⟨vr, SqT.of upd_same⟩, fun D hD => ?_⟩
                  refine lc_tup (xs := vr) (fun i H' => Same H H' ∧ H' D = some (.lst (badV (vr.take i) (rest.take i))) ∧ H' t = some (.tup vr)) ⟨s3.trans (Same.new hD), upd_same, (Same.new hD) _ _ upd_same⟩ (fun i H' hi h => SqT.of h.2.2) (fun i x H' hx hW => ?_) (fun H' hW => ?_)
                  · obtain ⟨sm, hDl, hT⟩ := hW
                    obtain ⟨dx, hdx, Dx⟩ := dp_at hrd hx
                    have dd := depth_all hdx
                    refine ⟨rfl, _, rfl, x, dx, rfl, Dx.mono sm, short_mem hsr hdx, lay_all hcr hdx, by omega, by omega, fun H3 s3' => ?_⟩
                    refine ⟨_, rfl, ?_⟩
                    have hD3 := s3' _ _ hDl
                    cases hb : termB dx with
                    | true =>
                      refine iteF ?_
                      refine ⟨sm.trans s3', ?_, s3' _ _ hT⟩
                      rw [hD3, badV_succ hx hdx, hb, if_pos rfl, List.append_nil]
                    | false =>
                      refine iteT ?_
                      refine ⟨_, rfl, _, hD3, ?_, ?_, ?_, ?_⟩
                      · refine Nat.lt_of_le_of_lt (badV_len _ _) ?_
                        rw [List.length_take]
                        omega
                      · exact fun b o hb => by
                          have hn : H D = none := by
                            cases hh : H D with
                            | none => rfl
                            | some o => have := s3 _ _ hh; rw [hD] at this; cases this
                          rw [upd_ne (ne_of_none hb hn)]
                          exact s3' _ _ (sm b o hb)
                      · rw [upd_same, badV_succ hx hdx, hb, if_neg (by decide)]
                      · rw [upd_ne (ne_of_none upd_same hD)]
                        exact s3' _ _ hT
                  · obtain ⟨sm, hDl, _⟩ := hW
                    rw [List.take_of_length_le (Nat.le_refl _), List.take_of_length_le (by omega)] at hDl
                    refine ⟨(by show 0 ≤ sizeLine; decide), fun l2 hl2 => ?_⟩
                    refine ⟨.list (bads rest), .list [], .lst (SqL.of ((Same.new hl2) _ _ hDl)) ((bad_dp hrd).mono (sm.trans (Same.new hl2))), Dp.newL0 hl2 .nil, ?_, nil_shaped, ?_⟩
                    · refine shaped_of (by simp only [PyData.canLay0]; exact bads_lay hcr) ?_
                      have := bads_depth (ds := rest)
                      simp only [PyData.depth]
                      omega
                    · have q1 := qw _ (sm.trans (Same.new (o := .lst []) hl2))
                      rw [PyData.eqv, bads_eqv]
                      simpa using q1
          | _ =>
            have q1 : Q (V.bl false) H := by simpa [termB, shapedB] using q0
            exact iteT q1
      | _ =>
        have q1 : Q (V.bl false) H := by simpa [termB] using q0
        exact iteT q1
end
end K16
set_option Elab.async false
set_option linter.all false
set_option maxRecDepth 100000
set_option maxHeartbeats 4000000
namespace K16
open PySem PySem.Spec PyProof.Rows L2
open C8 (Cal Def cal0 pe_c fnBody fnScope fnArgs)
theorem Ok.els {n m : Nat} {ds : List PyData} (h : Ok (n + 1) m (.tuple ds)) : OkAll n m ds ∧ ds.length ≤ 1000 := by
  have h1 : PyData.canLayAll0 ds = true := by simpa [PyData.canLay0] using h.lay
  have h2 : PyData.depthAll ds + 1 ≤ n + 1 := by simpa only [PyData.depth] using h.dep
  have h3 : PyData.weightAll ds ≤ m := by simpa only [PyData.weight] using h.wt
  have h4 : ds.length ≤ 1000 ∧ shortAll ds = true := short_all h.sh
  have h5 : PyData.intsShortAll 13 ds = true := by simpa only [PyData.intsShort] using h.ish
  have h6 : PyData.showableAll ds = true := by simpa only [PyData.showable] using h.shw
  exact ⟨⟨h1, by omega, h3, h4.2, h5, h6⟩, h4.1⟩
theorem Ok.lit {n m : Nat} {i : Int} (h1 : (PyData.int i).weight ≤ m) (h2 : (PyData.int i).intsShort 13 = true) (h3 : (PyData.int i).showable = true) : Ok n m (.int i) := ⟨rfl, by simp [PyData.depth], h1, rfl, h2, h3⟩
theorem OkAll.tail {n m : Nat} {d : PyData} {ds : List PyData} (h : OkAll n m (d :: ds)) : OkAll n m ds := by
  have hl : d.canLay0 = true ∧ PyData.canLayAll0 ds = true := by simpa [PyData.canLayAll0] using h.lay
  have hd : max d.depth (PyData.depthAll ds) ≤ n := by simpa only [PyData.depthAll] using h.dep
  have hw : d.weight + 1 + PyData.weightAll ds ≤ m := by simpa only [PyData.weightAll] using h.wt
  have hs : short d = true ∧ shortAll ds = true := by simpa [shortAll] using h.sh
  have hi : d.intsShort 13 = true ∧ PyData.intsShortAll 13 ds = true := by simpa [PyData.intsShortAll] using h.ish
  have hv : d.showable = true ∧ PyData.showableAll ds = true := by simpa [PyData.showableAll] using h.shw
  exact ⟨hl.2, by omega, by omega, hs.2, hi.2, hv.2⟩
theorem OkAll.take {n m : Nat} : ∀ {ds : List PyData} (k : Nat), OkAll n m ds → OkAll n m (ds.take k)
  | _, 0, _ => by rw [List.take_zero]; exact .nil
  | [], _ + 1, _ => by rw [List.take_nil]; exact .nil
  | d :: ds, k + 1, h => by
    have h1 : Ok n d.weight d := ⟨(h.at (i := 0) rfl).lay, (h.at (i := 0) rfl).dep, Nat.le_refl _, (h.at (i := 0) rfl).sh, (h.at (i := 0) rfl).ish, (h.at (i := 0) rfl).shw⟩
    have hw : d.weight + 1 + PyData.weightAll ds ≤ m := by simpa only [PyData.weightAll] using h.wt
    have ht := h.tail
    have h2 : OkAll n (m - d.weight - 1) ds := ⟨ht.lay, ht.dep, by omega, ht.sh, ht.ish, ht.shw⟩
    have h3 := OkAll.cons h1 (OkAll.take k h2)
    exact ⟨h3.lay, h3.dep, Nat.le_trans h3.wt (by omega), h3.sh, h3.ish, h3.shw⟩
theorem OkAll.mono {n m n' m' : Nat} {ds : List PyData} (h : OkAll n m ds) (hn : n ≤ n') (hm : m ≤ m') : OkAll n' m' ds := ⟨h.lay, Nat.le_trans h.dep hn, Nat.le_trans h.wt hm, h.sh, h.ish, h.shw⟩
section
variable {K : PySem.W.Frag} {p : Addr} {n : Int} {H0 : Hp} {kn : List (V × PyData)} {σ : L2.St}
/-- what stands while things are made: known data, the pot -/
structure In (K : PySem.W.Frag) (p : Addr) (n : Int) (H0 : Hp) (kn : List (V × PyData)) (H : Hp) : Prop where
  kn : ∀ v d, (v, d) ∈ kn → Dh K p H v d
  go : Going p n H0 H
theorem In.on {H H' : Hp} (I : In K p n H0 kn H) (g : Going p n H H') : In K p n H0 kn H' := ⟨fun v d h => (I.kn v d h).but g.1, I.go.trans g⟩
theorem In.new {H : Hp} {q : Addr} {o : HO} (I : In K p n H0 kn H) (hq : H q = none) : In K p n H0 kn (upd H q o) := ⟨fun v d h => (I.kn v d h).but (But.new hq), I.go.new hq⟩
/-- an expression that makes small data -/
def Item (K : PySem.W.Frag) (p : Addr) (n : Int) (H0 : Hp) (kn : List (V × PyData)) (σ : L2.St) (a W : Nat) (e : TE) : Prop :=
  ∀ H Q, In K p n H0 kn H → (∀ v d H', Ok a W d → Dh K p H' v d → In K p n H0 kn H' → But p H H' → Q v H') → e σ H Q
def Items (K : PySem.W.Frag) (p : Addr) (n : Int) (H0 : Hp) (kn : List (V × PyData)) (σ : L2.St) (a W N : Nat) (es : TA) : Prop :=
  ∀ H Q, In K p n H0 kn H → (∀ vs ds H', OkAll a W ds → ds.length = N → DhAll K p H' vs ds → In K p n H0 kn H' → But p H H' → Q vs H') → es σ H Q
theorem its_nil {a : Nat} : Items K p n H0 kn σ a 0 0 tNil := fun H Q I q => q [] [] H .nil rfl .nil I (But.refl p H)
theorem its_cons {a W W2 N : Nat} {e : TE} {es : TA} (h1 : Item K p n H0 kn σ a W e) (h2 : Items K p n H0 kn σ a W2 N es) : Items K p n H0 kn σ a (W + 1 + W2) (N + 1) (tCons e es) := fun H Q I q =>
  h1 H _ I fun v d H1 ok D I1 b1 => h2 H1 _ I1 fun vs ds H2 oks hl Ds I2 b2 => q (v :: vs) (d :: ds) H2 (OkAll.cons ok oks) (by rw [List.length_cons, hl]) (.cons (D.but b2) Ds) I2 (b1.trans b2)
theorem it_mono {a W a' W' : Nat} {e : TE} (h : Item K p n H0 kn σ a W e) (ha : a ≤ a') (hW : W ≤ W') : Item K p n H0 kn σ a' W' e := fun H Q I q => h H Q I fun v d H1 ok D I1 b1 => q v d H1 (ok.mono ha hW) D I1 b1
theorem it_tup {a W N : Nat} {es : TA} (h : Items K p n H0 kn σ a W N es) (hN : N ≤ 1000) : Item K p n H0 kn σ (a + 1) W (tTup es) := fun H Q I q =>
  h H _ I fun vs ds H1 ok hl D I1 b1 => ⟨by have := D.len; rw [sizeLine_eq]; omega, fun t ht => q _ (.tuple ds) _ (Ok.tup ok (by omega)) (Dp.newT ht (I1.go.ne ht) D) (I1.new ht) (b1.trans (But.new ht))⟩
theorem it_lst {a W N : Nat} {es : TA} (h : Items K p n H0 kn σ a W N es) (hN : N ≤ 1000) : Item K p n H0 kn σ (a + 1) W (tLst es) := fun H Q I q =>
  h H _ I fun vs ds H1 ok hl D I1 b1 => ⟨by have := D.len; rw [sizeLine_eq]; omega, fun t ht => q _ (.list ds) _ (Ok.lst ok (by omega)) (Dp.newL ht (I1.go.ne ht) D) (I1.new ht) (b1.trans (But.new ht))⟩
theorem it_c {a W : Nat} {v : V} {d : PyData} (hd : ∀ H, Dp K H v d) (ok : Ok a W d) : Item K p n H0 kn σ a W (tC v) := fun H Q I q => q v d H ok (hd _) I (But.refl p H)
theorem it_str {a : Nat} {z : Str} (h : asc z = true) (hl : z.length ≤ 20) : Item K p n H0 kn σ a 20 (tC (.str z)) := it_c (fun _ => .str z) (lit_ok h (by omega) hl)
theorem it_neg {a : Nat} : Item K p n H0 kn σ a 20 (tUn (rU fun i => .int (-i)) (tC (.int 1))) := fun H Q I q => ⟨_, rfl, q _ (.int (-1)) H (Ok.lit (by decide +kernel) (by decide +kernel) (by decide +kernel)) (.int _) I (But.refl p H)⟩
theorem it_pow {a : Nat} : Item K p n H0 kn σ a 60 (tOp (rI CPow fun i j => .int (i ^ j.toNat)) (tC (.int 10)) (tC (.int 12))) := fun H Q I q => by
  refine ⟨_, _, rfl, rfl, (by show (0 : Int) ≤ 12 ∧ _; decide), ?_⟩
  have e12 : (10 : Int) ^ (12 : Int).toNat = 1000000000000 := by decide
  show Q (.int ((10 : Int) ^ (12 : Int).toNat)) H
  rw [e12]
  exact q _ (.int 1000000000000) H (Ok.lit (by decide +kernel) (by decide +kernel) (by decide +kernel)) (.int _) I (But.refl p H)
theorem it_var {a W i : Nat} {v : V} {d : PyData} (hs : σ[i]? = some (some v)) (hk : (v, d) ∈ kn) (ok : Ok a W d) : Item K p n H0 kn σ a W (tVar i) := fun H Q I q => ⟨v, hs, q v d H ok (I.kn v d hk) I (But.refl p H)⟩
theorem it_word {a i : Nat} {u : Str} (hs : σ[i]? = some (some (.str u))) (h : asc u = true) (hl : u.length ≤ 20) : Item K p n H0 kn σ a 20 (tVar i) := fun H Q I q => ⟨_, hs, q _ (.str u) H (lit_ok h (by omega) hl) (.str u) I (But.refl p H)⟩
theorem its_at {a W : Nat} {ds : List PyData} {vs : List V} {H : Hp} {r : Int} (ok : OkAll a W ds) (D : DhAll K p H vs ds) (r0 : 0 ≤ r) (r1 : r < (vs.length : Nat)) : ∃ v d, atI vs r = some v ∧ Ok a W d ∧ Dh K p H v d := by
  obtain ⟨v, hv, e⟩ := pick_at r0 r1
  obtain ⟨d, hd, Dv⟩ := dp_at D hv
  exact ⟨v, d, atI_pick e hv, ok.at hd, Dv⟩
/-- one of a list, drawn -/
theorem it_pick {a W N : Nat} {es : TA} (h0 : σ[0]? = some (some (.ref p))) (h : Items K p n H0 kn σ a W N es) (hN : N ≤ 1000) (h1 : 1 ≤ N) : Item K p n H0 kn σ a W (tOp (rIxL K) (tLst es) (tCall spTake [] C8.E0 (tCons (tVar 0) (tCons (tC (.int (N : Nat))) tNil)))) := fun H Q I q => by
  refine h H _ I fun vs ds H1 ok hl D I1 b1 => ⟨by have := D.len; rw [sizeLine_eq]; omega, fun l hl2 => ?_⟩
  have I2 := I1.new (o := .lst vs) hl2
  have nl := I1.go.ne hl2
  have hlen := D.len
  obtain ⟨x, y, hp⟩ := I2.go.2
  refine ⟨_, h0, p, x, y, n, (N : Int), rfl, hp, by omega, ?_, fun r x' y' r0 r1 hp' => ?_⟩
  · rw [Int.natAbs_natCast]
    exact Nat.lt_of_le_of_lt hN (by decide +kernel)
  · have b2 : But p (upd H1 l (.lst vs)) _ := (But.refl p (upd H1 l (.lst vs))).pot (o := .lst [.int x', .int y', .int n])
    have I3 := I2.on (going_pot (But.refl p _) hp')
    obtain ⟨v, d, hat, okd, Dv⟩ := its_at ok D r0 (show r < ((vs.length : Nat) : Int) by omega)
    have b3 := (But.new (p := p) (o := .lst vs) hl2).trans b2
    exact ⟨l, _, r, v, rfl, rfl, SqL.of (b2 _ _ nl upd_same), hat, q v d _ okd (Dv.but b3) I3 (b1.trans b3)⟩
/-- a list at l of small data, made so far -/
structure Some_ (K : PySem.W.Frag) (p : Addr) (n : Int) (H0 : Hp) (kn : List (V × PyData)) (l : Addr) (H : Hp) (m N : Nat) (vs : List V) (ds : List PyData) : Prop where
  at_ : H l = some (.lst vs)
  ne : l ≠ p
  dat : DhAll K p H vs ds
  ok : OkAll 10 m ds
  len : ds.length = N
  inn : In K p n H0 kn H
theorem start_ {W N : Nat} {es : TA} {H : Hp} {Q : VK} (I : In K p n H0 kn H) (h : Items K p n H0 kn σ 10 W N es) (hN : N ≤ 1000) (q : ∀ l vs ds H', Some_ K p n H0 kn l H' W N vs ds → Q (.ref l) H') : tLst es σ H Q :=
  h H _ I fun vs ds H1 ok hl D I1 b1 => ⟨by have := D.len; rw [sizeLine_eq]; omega, fun l hl2 => q l vs ds _ ⟨upd_same, I1.go.ne hl2, D.but (But.new hl2), ok, hl, I1.new hl2⟩⟩
theorem grow {W N m0 N0 : Nat} {es : TA} {H : Hp} {Q : VK} {l : Addr} {vs : List V} {ds : List PyData} (S : Some_ K p n H0 kn l H m0 N0 vs ds) (hs : σ[4]? = some (some (.ref l))) (h : Items K p n H0 kn σ 10 W N es) (hN : N0 + N ≤ 1000)
    (q : ∀ l vs ds H', Some_ K p n H0 kn l H' (m0 + W) (N0 + N) vs ds → Q (.ref l) H') : tOp rCat (tVar 4) (tLst es) σ H Q := by
  refine ⟨_, hs, h H _ S.inn fun us es H1 ok hl D I1 b1 => ⟨by have := D.len; rw [sizeLine_eq]; omega, fun l2 hl2 => ?_⟩⟩
  have b2 := But.new (p := p) (o := .lst us) hl2
  have I2 := I1.new (o := .lst us) hl2
  refine ⟨l, l2, vs, us, rfl, rfl, b2 _ _ S.ne (b1 _ _ S.ne S.at_), upd_same, ?_, fun l3 hl3 => ?_⟩
  · have := D.len
    have := S.dat.len
    have := S.len
    rw [sizeLine_eq]
    omega
  · have b3 := But.new (p := p) (o := .lst (vs ++ us)) hl3
    exact q l3 _ (ds ++ es) _ ⟨upd_same, I2.go.ne hl3, (S.dat.but ((b1.trans b2).trans b3)).app (D.but (b2.trans b3)), S.ok.app ok, by rw [List.length_append, S.len, hl], I2.new hl3⟩
end
end K16
set_option Elab.async false
set_option linter.all false
set_option maxRecDepth 100000
set_option maxHeartbeats 4000000
namespace K16
open PySem PySem.Spec PyProof.Rows L2
open C8 (Cal Def cal0 pe_c fnBody fnScope fnArgs)
abbrev rUp : V → List V → Hp → VK → Prop := fun x xs H Q => ∃ a, x = .str a ∧ xs = [] ∧ a.length ≤ 5592405 ∧ Q (.str (PySem.Txt.upper a)) H
theorem word_of {u : Str} {ds : List PyData} (h : shapedW u ds = true) : asc u = true ∧ u.length ≤ 10 := by
  unfold shapedW at h
  by_cases e : leafW u = true
  · have e' := inV_strs (l := ["number", "truth", "name", "box", "empty"]).mp e
    simp only [List.mem_cons, List.not_mem_nil, or_false] at e'
    rcases e' with rfl | rfl | rfl | rfl | rfl <;> exact ⟨by decide +kernel, by decide⟩
  · rw [if_neg e] at h
    by_cases e1 : (u == ("field" : Str)) = true
    · have := beq_iff_eq.mp e1
      subst this
      exact ⟨by decide +kernel, by decide⟩
    · rw [if_neg e1] at h
      by_cases e2 : (u == ("list" : Str)) = true
      · have := beq_iff_eq.mp e2
        subst this
        exact ⟨by decide +kernel, by decide⟩
      · rw [if_neg e2] at h
        by_cases h1 : u ∈ (["not", "many"] : List Str)
        · exact ⟨(words1 h1).ok, (words1 h1).len⟩
        · by_cases h2 : u ∈ (["pick", "at"] : List Str)
          · exact ⟨(words3 h2).ok, (words3 h2).len⟩
          · by_cases h3 : u ∈ (["add", "less", "times", "under", "same", "both", "join"] : List Str)
            · exact ⟨(words2 h3).ok, (words2 h3).len⟩
            · rw [counts_none h1 h2 h3] at h
              cases h
theorem term_form {d : PyData} (h : termB d = true) : ∃ u rest, d = .tuple (.str u :: rest) ∧ 1 ≤ rest.length ∧ asc u = true ∧ u.length ≤ 10 ∧ shapedW u rest = true ∧ (selW u rest).all termB = true := by
  rw [termB_eq, Bool.and_eq_true] at h
  obtain ⟨u, rest, rfl, h1⟩ := shaped_form h.1
  have h2 : (decide (1 ≤ rest.length) && shapedW u rest) = true := h.1
  rw [Bool.and_eq_true] at h2
  have := word_of h2.2
  exact ⟨u, rest, rfl, h1, this.1, this.2, h2.2, h.2⟩
section
variable {K : PySem.W.Frag} {p : Addr} {n : Int} {H0 : Hp} {kn : List (V × PyData)} {σ : L2.St}
theorem dp_tup {H : Hp} {v : V} {ds : List PyData} (h : Dp K H v (.tuple ds)) : ∃ a xs, v = .ref a ∧ SqT K H a xs ∧ DpAll K H xs ds := by
  cases h with
  | tup hq ha => exact ⟨_, _, rfl, hq, ha⟩
theorem dp_rtup {H : Hp} {t : Addr} {ds : List PyData} (h : Dp K H (.ref t) (.tuple ds)) : ∃ xs, SqT K H t xs ∧ DpAll K H xs ds := by
  cases h with
  | tup hq ha => exact ⟨_, hq, ha⟩
theorem i10 {a W : Nat} {e : TE} (h : Item K p n H0 kn σ a W e) (ha : a ≤ 10) : Item K p n H0 kn σ 10 W e := it_mono h ha (Nat.le_refl _)
/-- an expression that makes a tuple of small data, some, not many -/
def ItemT (K : PySem.W.Frag) (p : Addr) (n : Int) (H0 : Hp) (kn : List (V × PyData)) (σ : L2.St) (a W : Nat) (e : TE) : Prop :=
  ∀ H Q, In K p n H0 kn H → (∀ t ds H', OkAll a W ds → 1 ≤ ds.length → ds.length ≤ 200 → Dh K p H' (.ref t) (.tuple ds) → In K p n H0 kn H' → But p H H' → Q (.ref t) H') → e σ H Q
theorem itT_var {a W i : Nat} {v : V} {ds : List PyData} (hs : σ[i]? = some (some v)) (hk : (v, .tuple ds) ∈ kn) (ok : OkAll a W ds) (h1 : 1 ≤ ds.length) (h2 : ds.length ≤ 200) : ItemT K p n H0 kn σ a W (tVar i) := fun H Q I q => by
  have D := I.kn _ _ hk
  obtain ⟨t, xs, rfl, _, _⟩ := dp_tup D
  exact ⟨_, hs, q t ds H ok h1 h2 D I (But.refl p H)⟩
theorem itT_tup {a W N : Nat} {es : TA} (h : Items K p n H0 kn σ a W N es) (h1 : 1 ≤ N) (hN : N ≤ 200) : ItemT K p n H0 kn σ a W (tTup es) := fun H Q I q =>
  h H _ I fun vs ds H1 ok hl D I1 b1 => ⟨by have := D.len; rw [sizeLine_eq]; omega, fun t ht => q t ds _ ok (by omega) (by omega) (Dp.newT ht (I1.go.ne ht) D) (I1.new ht) (b1.trans (But.new ht))⟩
theorem it_catA {a W W2 : Nat} {e1 e2 : TE} (h1 : ItemT K p n H0 kn σ a W e1) (h2 : ItemT K p n H0 kn σ a W2 e2) : Item K p n H0 kn σ (a + 1) (W + W2) (tOp (rCatA K) e1 e2) := fun H Q I q =>
  h1 H _ I fun t1 ds H1 ok l1 l1' D1 I1 b1 => h2 H1 _ I1 fun t2 es H2 ok2 l2 l2' D2 I2 b2 => by
    obtain ⟨xs, hq1, ha1⟩ := dp_rtup (D1.but b2)
    obtain ⟨ys, hq2, ha2⟩ := dp_rtup D2
    have e1 := ha1.len
    have e2 := ha2.len
    refine ⟨t1, t2, xs, ys, rfl, rfl, sqT_mono hid_in hq1, sqT_mono hid_in hq2, by rw [sizeLine_eq]; omega, (fun e => ?_), (fun _ e => ?_), fun _ _ r hr => ?_⟩
    · rw [e] at e1
      simp at e1
      omega
    · rw [e] at e2
      simp at e2
      omega
    · exact q _ (.tuple (ds ++ es)) _ (Ok.tup (ok.app ok2) (by rw [List.length_append]; omega)) (Dp.newT hr (I2.go.ne hr) (ha1.app ha2)) (I2.new hr) ((b1.trans b2).trans (But.new hr))
theorem it_listOf {W i : Nat} {v : V} {ds : List PyData} (hs : σ[i]? = some (some v)) (hk : (v, .tuple ds) ∈ kn) (ok : OkAll 9 W ds) (h2 : ds.length ≤ 200) :
    Item K p n H0 kn σ 10 W (tCB (fun xs H Q => ∃ p ys, xs = [.ref p] ∧ (SqL K H p ys ∨ SqT K H p ys) ∧ ∀ l, H l = none → Q (.ref l) (upd H l (.lst ys))) (tCons (tVar i) tNil)) := fun H Q I q => by
  have D := I.kn _ _ hk
  obtain ⟨t, xs, rfl, hq, ha⟩ := dp_tup D
  exact ⟨_, hs, t, xs, rfl, .inr (sqT_mono hid_in hq), fun l hl => q _ (.list ds) _ (Ok.lst ok (by omega)) (Dp.newL hl (I.go.ne hl) ha) (I.new hl) (But.new hl)⟩
theorem dpAll_tail {H : Hp} : ∀ {vs : List V} {ds : List PyData}, DpAll K H vs ds → DpAll K H vs.tail ds.tail
  | _, _, .nil => .nil
  | _, _, .cons _ t => t
theorem itT_tail {W i : Nat} {v : V} {d : PyData} {rest : List PyData} (hs : σ[i]? = some (some v)) (hk : (v, .tuple (d :: rest)) ∈ kn) (ok : OkAll 9 W (d :: rest)) (h1 : 1 ≤ rest.length) (h2 : rest.length ≤ 200) : ItemT K p n H0 kn σ 9 W (L2.tSl (rSlA K) (tVar i) (tPart (tC (.int 1))) tNoPart) := fun H Q I q => by
  have D := I.kn _ _ hk
  obtain ⟨t, xs, rfl, hq, ha⟩ := dp_tup D
  obtain ⟨v0, vr, rfl, g0, gr⟩ := dpAll_head ha
  refine ⟨_, hs, 1, rfl, t, _, rfl, sqT_mono hid_in hq, fun h => absurd h.1 (by rw [cut_one]; decide), fun _ l hl => ?_⟩
  rw [cut_tail]
  exact q l rest _ ok.tail h1 h2 (Dp.newT hl (I.go.ne hl) gr) (I.new hl) (But.new hl)
theorem it_init {W i : Nat} {v : V} {ds : List PyData} (hs : σ[i]? = some (some v)) (hk : (v, .tuple ds) ∈ kn) (ok : OkAll 9 W ds) (h1 : 1 ≤ ds.length) (h2 : ds.length ≤ 200) :
    Item K p n H0 kn σ 10 W (L2.tSl (rSlA K) (tVar i) tNoPart (tPart (tUn (rU fun i => .int (-i)) (tC (.int 1))))) := fun H Q I q => by
  have D := I.kn _ _ hk
  obtain ⟨t, xs, rfl, hq, ha⟩ := dp_tup D
  have hl := ha.len
  have hix : HT.sIx xs.length xs.length (some (-1)) = xs.length - 1 := by
    show (if (-1 : Int) < 0 then ((-1 : Int) + (xs.length : Int)).toNat else min (-1 : Int).toNat xs.length) = xs.length - 1
    rw [if_pos (by decide)]
    omega
  refine ⟨_, hs, _, rfl, -1, rfl, t, _, rfl, sqT_mono hid_in hq, fun h => absurd h.2 (by rw [hix]; omega), fun _ l hl' => ?_⟩
  have ec : cutV xs none (some (-1)) = xs.take (xs.length - 1) := by
    unfold cutV
    rw [hix, HT.sIx_none]
    rfl
  rw [ec]
  exact q _ (.tuple (ds.take (xs.length - 1))) _ (Ok.tup (ok.take _) (by rw [List.length_take]; omega)) (Dp.newT hl' (I.go.ne hl') (dpAll_take _ ha)) (I.new hl') (But.new hl')
theorem it_upper {a i : Nat} {v : V} {u : Str} {rest : List PyData} (hs : σ[i]? = some (some v)) (hk : (v, .tuple (.str u :: rest)) ∈ kn) (h : asc u = true) (hl : u.length ≤ 10) : Item K p n H0 kn σ a 20 (tM0 rUp (tOp (rIxT K) (tVar i) (tC (.int 0)))) := fun H Q I q => by
  have D := I.kn _ _ hk
  obtain ⟨t, xs, rfl, hq, ha⟩ := dp_tup D
  obtain ⟨v0, vr, rfl, g0, gr⟩ := dpAll_head ha
  cases g0
  exact ⟨_, hs, t, _, 0, .str u, rfl, rfl, sqT_mono hid_in hq, atI_nat (j := 0) rfl, ⟨_, rfl⟩, u, rfl, rfl, by omega, q _ (.str (PySem.Txt.upper u)) H (up_ok (by omega) (by omega) (asc_of h)) (.str _) I (But.refl p H)⟩
theorem itT_rep {a W i : Nat} {v : V} {d : PyData} (hs : σ[i]? = some (some v)) (hk : (v, d) ∈ kn) (ok : Ok a W d) : ItemT K p n H0 kn σ a (9 * (W + 1)) (tOp (rRepT K) (tTup (tCons (tVar i) tNil)) (tC (.int 9))) := fun H Q I q => by
  refine ⟨_, hs, (by show 1 ≤ sizeLine; decide), fun t ht => ?_⟩
  have I1 := I.new (o := .tup [v]) ht
  refine ⟨t, 9, [v], rfl, rfl, SqT.of upd_same, by simp, by decide, by decide, (by show 1 ≤ 1000; decide), fun r hr => ?_⟩
  have b := (But.new (p := p) (o := .tup [v]) ht).trans (But.new (p := p) (o := .tup (List.replicate (9 : Int).toNat [v]).flatten) hr)
  have D := I1.kn _ _ hk
  have o1 := OkAll.cons ok (OkAll.cons ok (OkAll.cons ok (OkAll.cons ok (OkAll.cons ok (OkAll.cons ok (OkAll.cons ok (OkAll.cons ok (OkAll.cons (b := 0) ok .nil))))))))
  exact q r [d, d, d, d, d, d, d, d, d] _ (o1.mono (Nat.le_refl _) (by omega)) (by show 1 ≤ 9; decide) (by show 9 ≤ 200; decide) (Dp.newT (xs := [v, v, v, v, v, v, v, v, v]) hr (I1.go.ne hr) (.cons D (.cons D (.cons D (.cons D (.cons D (.cons D (.cons D (.cons D (.cons D .nil)))))))))) (I1.new hr) b
end
end K16
set_option Elab.async false
set_option linter.all false
set_option maxRecDepth 100000
set_option maxHeartbeats 4000000
namespace K16
open PySem PySem.Spec PyProof.Rows L2
open C8 (Cal Def cal0 pe_c fnBody fnScope fnArgs)
section
variable {P : Program} {w : World} {K : PySem.W.Frag} {mg : Str → Option Value} {base : Heap}
abbrev sLOther : Stmt := topS 32
abbrev NLOther : List Str := ["_law_pot_here", "_law_term_here", "_law_one", "_law_word", "_law_some", "_law_bad"]
theorem scLOther : FnScope NLOther ["_law_pot_here", "_law_term_here"] (fnScope sLOther) := ⟨rfl, rfl, rfl, by decide +kernel, rfl, by decide +kernel, by decide +kernel⟩
def spOther (K : PySem.W.Frag) : Sp := fun vs H Q _ => ∃ (p : Addr) (x y n : Int) (tv : V) (td : PyData), vs = [.ref p, tv] ∧ Pot H p x y n ∧ Dh K p H tv td ∧ Ok 10 8000 td ∧ termB td = true ∧ ∀ v d H', Ok 11 900000 d → Dh K p H' v d → Going p n H H' → Q v H'
theorem word10 {z : Str} (h : z ∈ (["add", "not", "pick", "list", "field", "empty", "name", "box", "many", "at"] : List Str)) : asc z = true ∧ z.length ≤ 20 := by
  simp only [List.mem_cons, List.not_mem_nil, or_false] at h
  rcases h with rfl | rfl | rfl | rfl | rfl | rfl | rfl | rfl | rfl | rfl <;> exact ⟨by decide +kernel, by decide⟩
theorem shaped_len {u : Str} {ds : List PyData} (h : shapedW u ds = true) : ds.length ≤ 8 := by
  unfold shapedW at h
  split at h
  · simp only [Bool.and_eq_true, decide_eq_true_eq] at h
    omega
  · split at h
    · simp only [Bool.and_eq_true, decide_eq_true_eq] at h
      omega
    · split at h
      · exact of_decide_eq_true h
      · by_cases h1 : u ∈ (["not", "many"] : List Str)
        · rw [(words1 h1).cnt] at h
          have := of_decide_eq_true h
          omega
        · by_cases h2 : u ∈ (["pick", "at"] : List Str)
          · rw [(words3 h2).cnt] at h
            have := of_decide_eq_true h
            omega
          · by_cases h3 : u ∈ (["add", "less", "times", "under", "same", "both", "join"] : List Str)
            · rw [(words2 h3).cnt] at h
              have := of_decide_eq_true h
              omega
            · rw [counts_none h1 h2 h3] at h
              cases h
theorem c_other (T : Tp mg) (c_LTake : Cal P w K mg base 1 "_law_take" spTake []) (c_LLeaf : Cal P w K mg base 6 "_law_leaf" (spLeaf K) []) {f : Addr} {fd : FuncData} (D : Def K mg "_law_other" sLOther f fd) (b : Binds K fd ["_law_pot_here", "_law_term_here"] []) :
    Cal P w K mg base 7 "_law_other" (spOther K) [] := by
  refine cal0 D b .nil scLOther (fun vs H Q E h => ?_) (fun cdv A outer s H vs Q E hr h => ?_)
  · obtain ⟨p, x, y, n, tv, td, rfl, _⟩ := h
    rfl
  · obtain ⟨p, x, y, n, tv, td, rfl, hp, ht, hok, htm, q⟩ := h
    have nd := scLOther.nd
    refine ⟨_, (pss_cons (ps_set (i := 2) nd rfl (.inl rfl) (pe_c c_LLeaf hr (by decide) (by rfl) (pa_cons (pv 0) pa_nil)))
    (pss_cons (ps_set (i := 3) nd rfl (.inl rfl) (pe_ix ix_list (pe_lst (pa_cons pe_str (pa_cons pe_str (pa_cons pe_str (pa_cons pe_str (pa_cons pe_str (pa_cons pe_str (pa_cons pe_str (pa_cons pe_str (pa_cons pe_str (pa_cons pe_str pa_nil))))))))))) (pe_c c_LTake hr (by decide) (by rfl) (pa_cons (pv 0) (pa_cons pe_int pa_nil))) (fun _ _ => rfl)))
    (C8.pss_cut (ps_set (i := 4) nd rfl (.inl rfl) (pe_lst (pa_cons (pe_callTy call_list_of (by rfl) T.n_list (by decide +kernel) (pa_cons (pv 1) pa_nil)) (pa_cons (pe_op op_catA (pv 1) (pe_tup (pa_cons (pv 2) pa_nil))) (pa_cons (pe_slice sl_tupA (pv 1) po_none (po_some (pe_un un_neg pe_int))) (pa_cons (pe_op op_catA (pe_tup (pa_cons (pe_m0 PySem.F.slot_str_upper PySem.F.type_str_upper mt_upper (pe_ix ix_tup (pv 1) pe_int (fun _ _ => rfl))) pa_nil)) (pe_slice sl_tupA (pv 1) (po_some pe_int) po_none)) (pa_cons (pe_tup (pa_cons pe_str (pa_cons (pe_un un_neg pe_int) pa_nil))) (pa_cons (pe_tup (pa_cons pe_str (pa_cons (pe_op op_pow pe_int pe_int) pa_nil))) pa_nil))))))))
    (C8.pss_cut (ps_set (i := 4) nd rfl (.inl rfl) (pe_op op_cat (pv 4) (pe_lst (pa_cons (pe_tup (pa_cons pe_str (pa_cons pe_bl pa_nil))) (pa_cons (pe_tup (pa_cons pe_str (pa_cons pe_int pa_nil))) (pa_cons (pe_tup (pa_cons pe_str (pa_cons pe_int pa_nil))) (pa_cons (pe_tup (pa_cons pe_str (pa_cons pe_str pa_nil))) (pa_cons (pe_tup (pa_cons pe_str (pa_cons pe_str pa_nil))) (pa_cons (pe_tup (pa_cons pe_str (pa_cons pe_str pa_nil))) pa_nil)))))))))
    (C8.pss_cut (ps_set (i := 4) nd rfl (.inl rfl) (pe_op op_cat (pv 4) (pe_lst (pa_cons (pe_tup (pa_cons pe_str (pa_cons (pv 2) pa_nil))) pa_nil))))
    (C8.pss_cut (ps_set (i := 4) nd rfl (.inl rfl) (pe_op op_cat (pv 4) (pe_lst (pa_cons (pe_tup (pa_cons pe_str (pa_cons (pv 2) pa_nil))) (pa_cons (pe_tup (pa_cons pe_str (pa_cons pe_str pa_nil))) (pa_cons (pe_tup (pa_cons pe_str (pa_cons (pe_tup (pa_cons pe_str pa_nil)) pa_nil))) (pa_cons (pe_tup (pa_cons pe_str pa_nil)) (pa_cons (pe_op op_catA (pe_tup (pa_cons pe_str pa_nil)) (pe_op op_repT (pe_tup (pa_cons (pv 2) pa_nil)) pe_int)) pa_nil))))))))
    (C8.pss_cut (ps_set (i := 4) nd rfl (.inl rfl) (pe_op op_cat (pv 4) (pe_lst (pa_cons (pe_tup (pa_cons pe_str (pa_cons (pv 2) pa_nil))) (pa_cons (pe_tup (pa_cons pe_str (pa_cons (pv 2) (pa_cons pe_str pa_nil)))) (pa_cons (pe_tup (pa_cons pe_str (pa_cons pe_str (pa_cons (pv 2) pa_nil)))) (pa_cons (pe_tup (pa_cons pe_str (pa_cons (pv 2) (pa_cons (pv 2) pa_nil)))) pa_nil)))))))
    (C8.pss_cut (ps_set (i := 4) nd rfl (.inl rfl) (pe_op op_cat (pv 4) (pe_lst (pa_cons (pe_tup (pa_cons (pv 3) (pa_cons (pv 2) (pa_cons (pv 2) pa_nil)))) pa_nil))))
    (C8.pss_cut (ps_set (i := 4) nd rfl (.inl rfl) (pe_op op_cat (pv 4) (pe_lst (pa_cons (pe_tup (pa_cons (pv 3) (pa_cons (pv 2) pa_nil))) (pa_cons (pe_tup (pa_cons (pv 3) pa_nil)) (pa_cons (pe_tup (pa_cons (pv 3) (pa_cons (pv 2) (pa_cons (pv 2) (pa_cons (pv 2) pa_nil))))) (pa_cons (pe_ix ix_list (pe_lst (pa_cons pe_non (pa_cons pe_int (pa_cons pe_str (pa_cons pe_bl pa_nil))))) (pe_c c_LTake hr (by decide) (by rfl) (pa_cons (pv 0) (pa_cons pe_int pa_nil))) (fun _ _ => rfl)) pa_nil)))))))
    (C8.pss_cut (ps_set (i := 4) nd rfl (.inl rfl) (pe_op op_cat (pv 4) (pe_lst (pa_cons (pe_tup (pa_cons pe_str (pa_cons pe_str pa_nil))) pa_nil))))
    (C8.pss_cut (ps_set (i := 4) nd rfl (.inl rfl) (pe_op op_cat (pv 4) (pe_lst (pa_cons (pe_tup (pa_cons (pv 3) (pa_cons (pe_lst (pa_cons (pv 2) pa_nil)) (pa_cons (pv 2) pa_nil)))) (pa_cons (pe_tup (pa_cons pe_int (pa_cons (pv 2) pa_nil))) pa_nil)))))
    (C8.pss_cut (ps_set (i := 5) nd rfl (.inl rfl) (pe_ix ix_list (pv 4) (pe_c c_LTake hr (by decide) (by rfl) (pa_cons (pv 0) (pa_cons (pe_callB call_len_seq (by rfl) T.n_len (by decide +kernel) (pa_cons (pv 4) pa_nil)) pa_nil))) (fun _ _ => rfl)))
    (pss_one (ps_ret (pe_ix ix_list (pe_lst (pa_cons (pv 5) (pa_cons (pe_tup (pa_cons pe_str (pa_cons (pv 5) pa_nil))) (pa_cons (pe_tup (pa_cons pe_str (pa_cons (pv 2) (pa_cons (pv 5) pa_nil)))) (pa_cons (pe_tup (pa_cons pe_str (pa_cons (pv 5) (pa_cons pe_str pa_nil)))) (pa_cons (pe_tup (pa_cons pe_str (pa_cons (pv 5) (pa_cons (pv 2) pa_nil)))) pa_nil)))))) (pe_c c_LTake hr (by decide) (by rfl) (pa_cons (pv 0) (pa_cons pe_int pa_nil))) (fun _ _ => rfl)))))))))))))))), ?_⟩
    refine ⟨_, rfl, p, x, y, n, rfl, hp, fun ov od H1 ook otm onl oD g1 => ?_⟩
    obtain ⟨tw, rest, rfl, hr1, tasc, tlen, tshp, _⟩ := term_form htm
    have hr8 := shaped_len tshp
    have tel := hok.els.1
    have line := sizeLine_eq
    refine ⟨(by show 10 ≤ sizeLine; decide), fun l1 hl1 => ?_⟩
    have g2 := g1.new (o := .lst [.str "add", .str "not", .str "pick", .str "list", .str "field", .str "empty", .str "name", .str "box", .str "many", .str "at"]) hl1
    have nl1 := g1.ne hl1
    obtain ⟨x2, y2, hp2⟩ := g2.2
    refine ⟨_, rfl, p, x2, y2, n, 10, rfl, hp2, by decide, by decide, fun r x3 y3 r0 r1 hp3 => ?_⟩
    have g3 := g2.trans (going_pot (But.refl p _) hp3)
    obtain ⟨u, hu, hat⟩ := atI_strs (l := ["add", "not", "pick", "list", "field", "empty", "name", "box", "many", "at"]) r0 r1
    have wu := word10 hu
    refine ⟨l1, _, r, .str u, rfl, rfl, SqL.of ((But.refl p _).pot _ _ nl1 upd_same), hat, ?_⟩
    have e3 : But p H1 _ := (But.new (p := p) (o := .lst [.str "add", .str "not", .str "pick", .str "list", .str "field", .str "empty", .str "name", .str "box", .str "many", .str "at"]) hl1).trans ((But.refl p _).pot (o := .lst [.int x3, .int y3, .int n]))
    have I0 : In K p n H [(tv, .tuple (.str tw :: rest)), (ov, od)] _ := ⟨fun v d h => by
      simp only [List.mem_cons, List.not_mem_nil, or_false, Prod.mk.injEq] at h
      rcases h with ⟨rfl, rfl⟩ | ⟨rfl, rfl⟩
      · exact (ht.but g1.1).but e3
      · exact oD.but e3, g3⟩
    have hk1 : (tv, PyData.tuple (.str tw :: rest)) ∈ [(tv, PyData.tuple (.str tw :: rest)), (ov, od)] := List.mem_cons_self
    have hk2 : (ov, od) ∈ [(tv, PyData.tuple (.str tw :: rest)), (ov, od)] := List.mem_cons_of_mem _ List.mem_cons_self
    have tl : (PyData.str tw :: rest).length ≤ 200 := by rw [List.length_cons]; omega
    have tl1 : 1 ≤ (PyData.str tw :: rest).length := by rw [List.length_cons]; omega
    have S : ∀ {σ : L2.St} {a : Nat} (z : Str), asc z = true → z.length ≤ 20 → Item K p n H [(tv, PyData.tuple (.str tw :: rest)), (ov, od)] σ a 20 (tC (.str z)) := fun z h h2 => it_str h h2
    have O : ∀ {σ : L2.St} {a : Nat}, 4 ≤ a → σ[2]? = some (some ov) → Item K p n H [(tv, PyData.tuple (.str tw :: rest)), (ov, od)] σ a 100 (tVar 2) := fun h hs => it_var hs hk2 (ook.mono h (Nat.le_refl _))
    have U : ∀ {σ : L2.St} {a : Nat}, σ[3]? = some (some (.str u)) → Item K p n H [(tv, PyData.tuple (.str tw :: rest)), (ov, od)] σ a 20 (tVar 3) := fun hs => it_word hs wu.1 wu.2
    refine ⟨fun σ' H' => ∃ l vs ds m, σ' = [some (.ref p), some tv, some ov, some (.str u), some (.ref l), none] ∧ Some_ K p n H [(tv, .tuple (.str tw :: rest)), (ov, od)] l H' m 6 vs ds ∧ m ≤ 40000, ?_, ?_⟩
    · refine start_ I0 (its_cons (it_listOf rfl hk1 tel tl) (its_cons (i10 (it_catA (itT_var rfl hk1 tel tl1 tl) (itT_tup (its_cons (O (by decide) rfl) its_nil) (by decide) (by decide))) (by decide)) (its_cons (it_init rfl hk1 tel tl1 tl)
        (its_cons (i10 (it_catA (itT_tup (its_cons (it_upper rfl hk1 tasc tlen) its_nil) (by decide) (by decide)) (itT_tail rfl hk1 tel hr1 (by omega))) (by decide)) (its_cons (i10 (it_tup (its_cons (S (a := 0) "number" (by decide +kernel) (by decide)) (its_cons it_neg its_nil)) (by decide)) (by decide))
        (its_cons (i10 (it_tup (its_cons (S (a := 0) "number" (by decide +kernel) (by decide)) (its_cons it_pow its_nil)) (by decide)) (by decide)) its_nil)))))) (by decide) (fun l vs ds H' S => ⟨l, vs, ds, _, rfl, S, by decide⟩)
    · rintro σ2 H2 ⟨l, vs, ds, m, rfl, Sm, hm⟩
      refine ⟨(fun σ' H' => ∃ l vs ds m, σ' = [some (.ref p), some tv, some ov, some (.str u), some (.ref l), none] ∧ Some_ K p n H [(tv, PyData.tuple (.str tw :: rest)), (ov, od)] l H' m 12 vs ds ∧ m ≤ 42000), ?_, ?_⟩
      · exact grow Sm rfl (its_cons (i10 (it_tup (its_cons (S (a := 0) "number" (by decide +kernel) (by decide)) (its_cons (it_c (a := 0) (W := 20) (fun _ => .bl true) (.bool true)) its_nil)) (by decide)) (by decide)) (its_cons (i10 (it_tup (its_cons (S (a := 0) "truth" (by decide +kernel) (by decide)) (its_cons (it_c (a := 0) (W := 20) (fun _ => .int 1) (Ok.lit (by decide +kernel) (by decide +kernel) (by decide +kernel))) its_nil)) (by decide)) (by decide)) (its_cons (i10 (it_tup (its_cons (S (a := 0) "truth" (by decide +kernel) (by decide)) (its_cons (it_c (a := 0) (W := 20) (fun _ => .int 0) (Ok.lit (by decide +kernel) (by decide +kernel) (by decide +kernel))) its_nil)) (by decide)) (by decide)) (its_cons (i10 (it_tup (its_cons (S (a := 0) "name" (by decide +kernel) (by decide)) (its_cons (S (a := 0) "yes" (by decide +kernel) (by decide)) its_nil)) (by decide)) (by decide)) (its_cons (i10 (it_tup (its_cons (S (a := 0) "box" (by decide +kernel) (by decide)) (its_cons (S (a := 0) "A" (by decide +kernel) (by decide)) its_nil)) (by decide)) (by decide)) (its_cons (i10 (it_tup (its_cons (S (a := 0) "name" (by decide +kernel) (by decide)) (its_cons (S (a := 0) "" (by decide +kernel) (by decide)) its_nil)) (by decide)) (by decide)) its_nil)))))) (by decide) (fun l vs ds H' S => ⟨l, vs, ds, _, rfl, S, by omega⟩)
      · rintro σ2 H2 ⟨l, vs, ds, m, rfl, Sm, hm⟩
        refine ⟨(fun σ' H' => ∃ l vs ds m, σ' = [some (.ref p), some tv, some ov, some (.str u), some (.ref l), none] ∧ Some_ K p n H [(tv, PyData.tuple (.str tw :: rest)), (ov, od)] l H' m 13 vs ds ∧ m ≤ 43000), ?_, ?_⟩
        · exact grow Sm rfl (its_cons (i10 (it_tup (its_cons (S (a := 4) "box" (by decide +kernel) (by decide)) (its_cons (O (a := 4) (by decide) rfl) its_nil)) (by decide)) (by decide)) its_nil) (by decide) (fun l vs ds H' S => ⟨l, vs, ds, _, rfl, S, by omega⟩)
        · rintro σ2 H2 ⟨l, vs, ds, m, rfl, Sm, hm⟩
          refine ⟨(fun σ' H' => ∃ l vs ds m, σ' = [some (.ref p), some tv, some ov, some (.str u), some (.ref l), none] ∧ Some_ K p n H [(tv, PyData.tuple (.str tw :: rest)), (ov, od)] l H' m 18 vs ds ∧ m ≤ 46000), ?_, ?_⟩
          · exact grow Sm rfl (its_cons (i10 (it_tup (its_cons (S (a := 4) "empty" (by decide +kernel) (by decide)) (its_cons (O (a := 4) (by decide) rfl) its_nil)) (by decide)) (by decide)) (its_cons (i10 (it_tup (its_cons (S (a := 0) "empty" (by decide +kernel) (by decide)) (its_cons (S (a := 0) "number" (by decide +kernel) (by decide)) its_nil)) (by decide)) (by decide)) (its_cons (i10 (it_tup (its_cons (S (a := 1) "empty" (by decide +kernel) (by decide)) (its_cons (it_tup (its_cons (S (a := 0) "list" (by decide +kernel) (by decide)) its_nil) (by decide)) its_nil)) (by decide)) (by decide)) (its_cons (i10 (it_tup (its_cons (S (a := 0) "list" (by decide +kernel) (by decide)) its_nil) (by decide)) (by decide)) (its_cons (i10 (it_catA (itT_tup (its_cons (S (a := 4) "list" (by decide +kernel) (by decide)) its_nil) (by decide) (by decide)) (itT_rep rfl hk2 ook)) (by decide)) its_nil))))) (by decide) (fun l vs ds H' S => ⟨l, vs, ds, _, rfl, S, by omega⟩)
          · rintro σ2 H2 ⟨l, vs, ds, m, rfl, Sm, hm⟩
            refine ⟨(fun σ' H' => ∃ l vs ds m, σ' = [some (.ref p), some tv, some ov, some (.str u), some (.ref l), none] ∧ Some_ K p n H [(tv, PyData.tuple (.str tw :: rest)), (ov, od)] l H' m 22 vs ds ∧ m ≤ 49000), ?_, ?_⟩
            · exact grow Sm rfl (its_cons (i10 (it_tup (its_cons (S (a := 4) "field" (by decide +kernel) (by decide)) (its_cons (O (a := 4) (by decide) rfl) its_nil)) (by decide)) (by decide)) (its_cons (i10 (it_tup (its_cons (S (a := 4) "field" (by decide +kernel) (by decide)) (its_cons (O (a := 4) (by decide) rfl) (its_cons (S (a := 4) "number" (by decide +kernel) (by decide)) its_nil))) (by decide)) (by decide)) (its_cons (i10 (it_tup (its_cons (S (a := 4) "field" (by decide +kernel) (by decide)) (its_cons (S (a := 4) "a" (by decide +kernel) (by decide)) (its_cons (O (a := 4) (by decide) rfl) its_nil))) (by decide)) (by decide)) (its_cons (i10 (it_tup (its_cons (S (a := 4) "field" (by decide +kernel) (by decide)) (its_cons (O (a := 4) (by decide) rfl) (its_cons (O (a := 4) (by decide) rfl) its_nil))) (by decide)) (by decide)) its_nil)))) (by decide) (fun l vs ds H' S => ⟨l, vs, ds, _, rfl, S, by omega⟩)
            · rintro σ2 H2 ⟨l, vs, ds, m, rfl, Sm, hm⟩
              refine ⟨(fun σ' H' => ∃ l vs ds m, σ' = [some (.ref p), some tv, some ov, some (.str u), some (.ref l), none] ∧ Some_ K p n H [(tv, PyData.tuple (.str tw :: rest)), (ov, od)] l H' m 23 vs ds ∧ m ≤ 50000), ?_, ?_⟩
              · exact grow Sm rfl (its_cons (i10 (it_tup (its_cons (U (a := 4) rfl) (its_cons (O (a := 4) (by decide) rfl) (its_cons (O (a := 4) (by decide) rfl) its_nil))) (by decide)) (by decide)) its_nil) (by decide) (fun l vs ds H' S => ⟨l, vs, ds, _, rfl, S, by omega⟩)
              · rintro σ2 H2 ⟨l, vs, ds, m, rfl, Sm, hm⟩
                refine ⟨(fun σ' H' => ∃ l vs ds m, σ' = [some (.ref p), some tv, some ov, some (.str u), some (.ref l), none] ∧ Some_ K p n H [(tv, PyData.tuple (.str tw :: rest)), (ov, od)] l H' m 27 vs ds ∧ m ≤ 53000), ?_, ?_⟩
                · exact grow Sm rfl (its_cons (i10 (it_tup (its_cons (U (a := 4) rfl) (its_cons (O (a := 4) (by decide) rfl) its_nil)) (by decide)) (by decide)) (its_cons (i10 (it_tup (its_cons (U (a := 4) rfl) its_nil) (by decide)) (by decide)) (its_cons (i10 (it_tup (its_cons (U (a := 4) rfl) (its_cons (O (a := 4) (by decide) rfl) (its_cons (O (a := 4) (by decide) rfl) (its_cons (O (a := 4) (by decide) rfl) its_nil)))) (by decide)) (by decide)) (its_cons (i10 (it_pick (a := 0) rfl (its_cons (it_c (a := 0) (W := 20) (fun _ => .non) .none) (its_cons (it_c (a := 0) (W := 20) (fun _ => .int 7) (Ok.lit (by decide +kernel) (by decide +kernel) (by decide +kernel))) (its_cons (S (a := 0) "a" (by decide +kernel) (by decide)) (its_cons (it_c (a := 0) (W := 20) (fun _ => .bl true) (.bool true)) its_nil)))) (by decide) (by decide)) (by decide)) its_nil)))) (by decide) (fun l vs ds H' S => ⟨l, vs, ds, _, rfl, S, by omega⟩)
                · rintro σ2 H2 ⟨l, vs, ds, m, rfl, Sm, hm⟩
                  refine ⟨(fun σ' H' => ∃ l vs ds m, σ' = [some (.ref p), some tv, some ov, some (.str u), some (.ref l), none] ∧ Some_ K p n H [(tv, PyData.tuple (.str tw :: rest)), (ov, od)] l H' m 28 vs ds ∧ m ≤ 54000), ?_, ?_⟩
                  · exact grow Sm rfl (its_cons (i10 (it_tup (its_cons (S (a := 0) "number" (by decide +kernel) (by decide)) (its_cons (S (a := 0) "1" (by decide +kernel) (by decide)) its_nil)) (by decide)) (by decide)) its_nil) (by decide) (fun l vs ds H' S => ⟨l, vs, ds, _, rfl, S, by omega⟩)
                  · rintro σ2 H2 ⟨l, vs, ds, m, rfl, Sm, hm⟩
                    refine ⟨(fun σ' H' => ∃ l vs ds m, σ' = [some (.ref p), some tv, some ov, some (.str u), some (.ref l), none] ∧ Some_ K p n H [(tv, PyData.tuple (.str tw :: rest)), (ov, od)] l H' m 30 vs ds ∧ m ≤ 56000), ?_, ?_⟩
                    · exact grow Sm rfl (its_cons (i10 (it_tup (its_cons (U (a := 5) rfl) (its_cons (it_lst (its_cons (O (a := 4) (by decide) rfl) its_nil) (by decide)) (its_cons (O (a := 5) (by decide) rfl) its_nil))) (by decide)) (by decide)) (its_cons (i10 (it_tup (its_cons (it_c (a := 4) (W := 20) (fun _ => .int 7) (Ok.lit (by decide +kernel) (by decide +kernel) (by decide +kernel))) (its_cons (O (a := 4) (by decide) rfl) its_nil)) (by decide)) (by decide)) its_nil)) (by decide) (fun l vs ds H' S => ⟨l, vs, ds, _, rfl, S, by omega⟩)
                    · rintro σ2 H2 ⟨l, vs, ds, m, rfl, Sm, hm⟩
                      refine ⟨fun σ' H' => ∃ bv bd, σ' = [some (.ref p), some tv, some ov, some (.str u), some (.ref l), some bv] ∧ Ok 10 56000 bd ∧ In K p n H [(tv, PyData.tuple (.str tw :: rest)), (ov, od), (bv, bd)] H', ?_, ?_⟩
                      · obtain ⟨x5, y5, hp5⟩ := Sm.inn.go.2
                        have hvl : vs.length = 30 := Sm.dat.len.trans Sm.len
                        refine ⟨_, rfl, _, rfl, _, rfl, l, vs, rfl, .inl (SqL.of Sm.at_), p, x5, y5, n, 30, (by rw [hvl]; rfl), hp5, by decide, by decide, fun r x6 y6 r0 r1 hp6 => ?_⟩
                        have gp := going_pot (But.refl p H2) hp6
                        have Im := Sm.inn.on gp
                        obtain ⟨bv, bd, hat5, okb, Db⟩ := its_at Sm.ok Sm.dat r0 (show r < ((vs.length : Nat) : Int) by rw [hvl]; exact r1)
                        refine ⟨l, vs, r, bv, rfl, rfl, SqL.of (gp.1 _ _ Sm.ne Sm.at_), hat5, bv, bd, rfl, okb.mono (Nat.le_refl _) hm, ⟨fun v d h => ?_, Im.go⟩⟩
                        simp only [List.mem_cons, List.not_mem_nil, or_false, Prod.mk.injEq] at h
                        rcases h with ⟨rfl, rfl⟩ | ⟨rfl, rfl⟩ | ⟨rfl, rfl⟩
                        · exact Im.kn _ _ hk1
                        · exact Im.kn _ _ hk2
                        · exact Db.but gp.1
                      · rintro σ3 H3 ⟨bv, bd, rfl, okb, Ib⟩
                        have hk3 : (bv, bd) ∈ [(tv, PyData.tuple (.str tw :: rest)), (ov, od), (bv, bd)] := List.mem_cons_of_mem _ (List.mem_cons_of_mem _ List.mem_cons_self)
                        have hk4 : (ov, od) ∈ [(tv, PyData.tuple (.str tw :: rest)), (ov, od), (bv, bd)] := List.mem_cons_of_mem _ List.mem_cons_self
                        have B : ∀ {σ : L2.St} {a : Nat}, 10 ≤ a → σ[5]? = some (some bv) → Item K p n H [(tv, PyData.tuple (.str tw :: rest)), (ov, od), (bv, bd)] σ a 56000 (tVar 5) := fun h hs => it_var hs hk3 (okb.mono h (Nat.le_refl _))
                        have O : ∀ {σ : L2.St} {a : Nat}, 4 ≤ a → σ[2]? = some (some ov) → Item K p n H [(tv, PyData.tuple (.str tw :: rest)), (ov, od), (bv, bd)] σ a 100 (tVar 2) := fun h hs => it_var hs hk4 (ook.mono h (Nat.le_refl _))
                        have S : ∀ {σ : L2.St} {a : Nat} (z : Str), asc z = true → z.length ≤ 20 → Item K p n H [(tv, PyData.tuple (.str tw :: rest)), (ov, od), (bv, bd)] σ a 20 (tC (.str z)) := fun z h h2 => it_str h h2
                        exact it_pick (a := 11) (N := 5) rfl (its_cons (B (a := 11) (by decide) rfl) (its_cons (it_tup (its_cons (S (a := 10) "not" (by decide +kernel) (by decide)) (its_cons (B (a := 10) (by decide) rfl) its_nil)) (by decide)) (its_cons (it_tup (its_cons (S (a := 10) "list" (by decide +kernel) (by decide)) (its_cons (O (a := 10) (by decide) rfl) (its_cons (B (a := 10) (by decide) rfl) its_nil))) (by decide)) (its_cons (it_tup (its_cons (S (a := 10) "field" (by decide +kernel) (by decide)) (its_cons (B (a := 10) (by decide) rfl) (its_cons (S (a := 10) "f" (by decide +kernel) (by decide)) its_nil))) (by decide)) (its_cons (it_tup (its_cons (S (a := 10) "add" (by decide +kernel) (by decide)) (its_cons (B (a := 10) (by decide) rfl) (its_cons (O (a := 10) (by decide) rfl) its_nil))) (by decide)) its_nil))))) (by decide) (by decide) H3 _ Ib (fun v d H' ok D I b => q v d H' (ok.mono (Nat.le_refl _) (by decide)) D I.go)
end
end K16
set_option Elab.async false
set_option linter.all false
set_option maxRecDepth 100000
set_option maxHeartbeats 4000000
namespace K16
open PySem PySem.Spec PyProof.Rows L2
open C8 (Cal Def cal0 pe_c fnBody fnScope fnArgs)
theorem OkAll.sel {n m : Nat} {u : Str} {ds : List PyData} (h : OkAll n m ds) : OkAll n m (selW u ds) := by
  unfold selW
  split
  · exact .nil
  · split
    · exact h.take 1
    · exact h
section
variable {P : Program} {w : World} {K : PySem.W.Frag} {mg : Str → Option Value} {base : Heap}
theorem sqL_but {p a : Addr} {H H' : Hp} {xs : List V} (hp : H p = none) (h : SqL K H a xs) (e : But p H H') : SqL K H' a xs := by
  rcases h with (h | ⟨o, h⟩) | h
  · exact .inl (.inl (e _ _ (ne_of_none h hp) h))
  · exact .inl (.inr ⟨o, e _ _ (ne_of_none h hp) h⟩)
  · exact .inr h
theorem sqL_same {a : Addr} {H H' : Hp} {xs : List V} (h : SqL K H a xs) (e : Same H H') : SqL K H' a xs := by
  rcases h with (h | ⟨o, h⟩) | h
  · exact .inl (.inl (e _ _ h))
  · exact .inl (.inr ⟨o, e _ _ h⟩)
  · exact .inr h
theorem but_off {p l : Addr} {H H' : Hp} {o : HO} (e : But p H H') (hl : H l = none) : But p H (upd H' l o) := fun b u n h => by
  rw [upd_ne (ne_of_none h hl)]
  exact e b u n h
abbrev sLaw : Stmt := topS 33
abbrev NLaw : List Str := ["_law_script", "_law_k", "_law_pot_here", "_law_term_here", "_law_kept", "_law_found", "_law_other_here"]
theorem scLaw : FnScope NLaw ["_law_script"] (fnScope sLaw) := ⟨rfl, rfl, rfl, by decide +kernel, rfl, by decide +kernel, by decide +kernel⟩
def spLaw (K : PySem.W.Frag) : Sp := fun vs H Q _ => ∃ (a : Addr) (ns : List Int), vs = [.ref a] ∧ SqL K H a (ns.map V.int) ∧ ns.length ≤ 63 ∧ ∀ H', Q (.bl true) H'
theorem f_law (T : Tp mg) (c_LCellAt : Cal P w K mg base 1 "_law_cell_at" (spCellAt K) []) (c_LPot : Cal P w K mg base 1 "_law_pot" spPot []) (c_LTerm : Cal P w K mg base 21 "_law_term" (spT K 7) [])
    (c_PPartsOf : Cal P w K mg base 1 "parts_of" (spParts K) []) (c_PIsTerm : Cal P w K mg base 5 "is_term" (spTerm K) []) (c_LWithin : Cal P w K mg base 1 "_law_within" (spParts K) []) (c_LOther : Cal P w K mg base 7 "_law_other" (spOther K) [])
    (c_LIsTerm : Cal P w K mg base 25 "_law_is_term" (spTerm2 K 12) [])
    {f : Addr} {fd : FuncData} (D : Def K mg "law" sLaw f fd) : FnG P w K mg base C8.CX0 26 f fd ["_law_script"] (spLaw K) := by
  refine fnG0 D scLaw (fun vs H Q E h => ?_) (fun cdv A outer s H vs Q E hg hr h => ?_)
  · obtain ⟨a, ns, rfl, _⟩ := h
    rfl
  · obtain ⟨a, ns, rfl, hS, hn, q⟩ := h
    have nd := scLaw.nd
    refine ⟨_, (pss_cons (ps_for PassesOwn.never rfl (pi_range1 (by rfl) T.n_range (pa_cons (pe_callB (call_max2 rfl) (by rfl) T.n_max (by decide +kernel) (pa_cons pe_int (pa_cons (pe_callB (call_min2 rfl) (by rfl) T.n_min (by decide +kernel) (pa_cons (pe_callB call_len_seq (by rfl) T.n_len (by decide +kernel) (pa_cons (pv 0) pa_nil)) (pa_cons pe_int pa_nil))) pa_nil))) pa_nil)) (pg_name (i := 1) nd rfl (.inl rfl))
      (pss_cons (ps_set (i := 2) nd rfl (.inl rfl) (pe_op op_cat (pe_c c_LPot hr (by decide) (by rfl) (pa_cons (pe_c c_LCellAt hr (by decide) (by rfl) (pa_cons (pv 0) (pa_cons (pv 1) pa_nil))) (pa_cons (pv 1) pa_nil))) (pe_lst (pa_cons pe_int pa_nil))))
    (pss_cons (ps_set (i := 3) nd rfl (.inl rfl) (pe_c c_LTerm hr (by decide) (by rfl) (pa_cons (pv 2) (pa_cons pe_int pa_nil))))
    (pss_cons (ps_set (i := 4) nd rfl (.inl rfl) (pe_callB (call_reprD hg (hrep_of hr)) (by rfl) T.n_repr (by decide +kernel) (pa_cons (pv 3) pa_nil)))
    (pss_cons (ps_set (i := 5) nd rfl (.inl rfl) (pe_c c_PPartsOf hr (by decide) (by rfl) (pa_cons (pv 3) pa_nil)))
    (pss_cons (ps_if (PW.pt (pw_or (pt_cmpR op_notBl (pe_c c_PIsTerm hr (by decide) (by rfl) (pa_cons (pv 3) pa_nil)) pe_bl (nomark _)) (pw_or (pt_not (pt_val (pe_callB call_isD (by rfl) T.n_isinstance (by decide +kernel) (pa_cons (pv 5) (pa_cons (pe_bltn (v := .ty "list") (by rfl) T.n_list (by decide +kernel) rfl) pa_nil))))) (pw_or1 (pt_cmpR (op_neD hr.units) (pv 5) (pe_c c_LWithin hr (by decide) (by rfl) (pa_cons (pv 3) pa_nil)) (nomark _))))))
      (pss_one (ps_ret pe_bl))
      pss_nil)
    (pss_cons (ps_expr (pe_bm PySem.F.plainAttrs_list PySem.F.slot_list_append PySem.F.type_list_append mt_append (pv 5) (pa_cons (pe_tup (pa_cons pe_str (pa_cons pe_int pa_nil))) pa_nil)))
    (pss_cons (ps_if (PW.pt (pw_or (pt_cmpR (op_neD hr.units) (pe_c c_PPartsOf hr (by decide) (by rfl) (pa_cons (pv 3) pa_nil)) (pe_c c_LWithin hr (by decide) (by rfl) (pa_cons (pv 3) pa_nil)) (nomark _)) (pw_or1 (pt_cmpR op_ne (pe_callB (call_reprD hg (hrep_of hr)) (by rfl) T.n_repr (by decide +kernel) (pa_cons (pv 3) pa_nil)) (pv 4) (nomark _)))))
      (pss_one (ps_ret pe_bl))
      pss_nil)
    (pss_cons (ps_set (i := 6) nd rfl (.inl rfl) (pe_c c_LOther hr (by decide) (by rfl) (pa_cons (pv 2) (pa_cons (pv 3) pa_nil))))
    (pss_cons (ps_set (i := 4) nd rfl (.inl rfl) (pe_callB (call_reprD hg (hrep_of hr)) (by rfl) T.n_repr (by decide +kernel) (pa_cons (pv 6) pa_nil)))
    (pss_cons (ps_set (i := 5) nd rfl (.inl rfl) (pe_c c_PIsTerm hr (by decide) (by rfl) (pa_cons (pv 6) pa_nil)))
    (pss_one (ps_if (PW.pt (pw_or (pt_not (pt_val (pe_callB call_isD (by rfl) T.n_isinstance (by decide +kernel) (pa_cons (pv 5) (pa_cons (pe_bltn (v := .ty "bool") (by rfl) T.n_bool (by decide +kernel) rfl) pa_nil))))) (pw_or (pt_cmpR op_ne (pv 5) (pe_c c_LIsTerm hr (by decide) (by rfl) (pa_cons (pv 6) pa_nil)) (nomark _)) (pw_or1 (pt_cmpR op_ne (pe_callB (call_reprD hg (hrep_of hr)) (by rfl) T.n_repr (by decide +kernel) (pa_cons (pv 6) pa_nil)) (pv 4) (nomark _))))))
      (pss_one (ps_ret pe_bl))
      pss_nil)))))))))))))
    (pss_one (ps_ret pe_bl))), ?_⟩
    have hlen : (ns.map V.int).length = ns.length := List.length_map ..
    refine ⟨_, rfl, a, _, rfl, .inl hS, _, _, rfl, _, _, rfl, _, rfl, ?_, ?_, ?_⟩
    · split <;> split <;> omega
    · split <;> split <;> omega
    · refine for_range (lo := 0) (n := (if (if (20 : Int) < ((ns.map V.int).length : Nat) then (20 : Int) else ((ns.map V.int).length : Nat)) > 1 then (if (20 : Int) < ((ns.map V.int).length : Nat) then (20 : Int) else ((ns.map V.int).length : Nat)) else 1).toNat)
        (fun i σ H' => (∃ o1 o2 o3 o4 o5 o6, σ = [some (.ref a), o1, o2, o3, o4, o5, o6]) ∧ SqL K H' a (ns.map V.int)) ⟨⟨_, _, _, _, _, _, rfl⟩, hS⟩ (fun i σ H' hi hW => ?_) (fun σ H' hW => ?_)
      · obtain ⟨⟨o1, o2, o3, o4, o5, o6, rfl⟩, hS'⟩ := hW
        have hi' : i ≤ 100 := by
          have h2 : i < _ := hi
          split at h2 <;> (try split at h2) <;> omega
        have e0 : (0 : Int) + (i : Int) = (i : Int) := Int.zero_add _
        rw [e0]
        refine ⟨_, rfl, _, rfl, a, ns, i, rfl, hS', fun n => ⟨_, rfl, n, i, rfl, hi', fun p0 x y hp0 x0 y0 y1 => ⟨(by show 1 ≤ sizeLine; decide), fun l0 hl0 => ?_⟩⟩⟩
        have s0 : Same H' _ := (Same.new (o := .lst [.int x, .int y]) hp0).trans (Same.new (o := .lst [.int 24]) hl0)
        have hSs := sqL_same hS' s0
        refine ⟨p0, l0, [.int x, .int y], [.int 24], rfl, rfl, (Same.new hl0) _ _ upd_same, upd_same, (by show 2 + 1 ≤ sizeLine; decide), fun p hpn => ?_⟩
        have hp : Pot (upd (upd (upd H' p0 (.lst [.int x, .int y])) l0 (.lst [.int 24])) p (.lst [.int x, .int y, .int 24])) p x y 24 := ⟨upd_same, x0, y0, y1⟩
        have bS : But p (upd (upd H' p0 (.lst [.int x, .int y])) l0 (.lst [.int 24])) (upd (upd (upd H' p0 (.lst [.int x, .int y])) l0 (.lst [.int 24])) p (.lst [.int x, .int y, .int 24])) := (But.refl p _).pot
        refine ⟨_, rfl, p, x, y, 24, 6, rfl, by decide, hp, fun v d H2 n2 W h1 h2 h3 okd htm hnl hD g1 => ?_⟩
        have okt : Ok 10 8000 d := okd.mono (by decide) (by rcases h2 with h2 | h2 <;> omega)
        have hD' := hD.un
        have shT := okt.shownB (by decide) (by decide)
        obtain ⟨u, rest, rfl, hr1, _, _, hshp, _⟩ := term_form htm
        have hr8 := shaped_len hshp
        have okr : OkAll 9 8000 (selW u rest) := okt.els.1.tail.sel
        obtain ⟨at_, xs, rfl, hq, ha⟩ := dp_tup hD'
        obtain ⟨v0, vr, rfl, gu, gr⟩ := dpAll_head ha
        cases gu
        have hvr := gr.len
        have dS := sel_dp u gr
        have shS : SeqAt.shaped (.list (selW u rest)) = true := by
          have o := Ok.lst okr (by have := sel_len u rest; omega)
          exact shaped_of o.lay (by have := o.dep; omega)
        refine ⟨_, rfl, .ref at_, _, rfl, hD', shT, ?_⟩
        refine ⟨_, rfl, at_, u, vr, rfl, hq, by omega, by omega, fun l H3 hl s3 hat => ?_⟩
        refine ⟨_, rfl, .ref at_, _, rfl, hD'.mono s3, okt.sh, by have := okt.wt; omega, fun H4 s4 => ⟨_, _, rfl, rfl, _, rfl, iteF' (by rw [htm]; rfl) ?_⟩⟩
        have hat4 := s4 _ _ hat
        have s34 := s3.trans s4
        refine ⟨_, rfl, .ref l, .list (selW u rest), "list", rfl, .lst (SqL.of hat4) (dS.mono s34), by decide, _, rfl, iteF ?_⟩
        refine ⟨_, rfl, _, rfl, at_, u, vr, rfl, sqT_mono s34 hq, by omega, by omega, fun l2 H5 hl2 s5 hat5 => ?_⟩
        have hat45 := s5 _ _ hat4
        have s345 := s34.trans s5
        refine ⟨.list (selW u rest), .list (selW u rest), .lst (SqL.of hat45) (dS.mono s345), .lst (SqL.of hat5) (dS.mono s345), shS, shS, _, rfl, iteF' (by rw [SeqAt.eqv_refl _ (SeqAt.canLay_of_shaped shS)]; rfl) ?_⟩
        refine ⟨_, rfl, .inl ⟨rfl, _, SqL.of hat45⟩, (by show 2 ≤ sizeLine; decide), fun t6 ht6 => ?_⟩
        have s6 := s345.trans (Same.new (o := .tup [.str "number", .int 7]) ht6)
        have hat6 := (Same.new (o := .tup [.str "number", .int 7]) ht6) _ _ hat45
        refine ⟨l, _, .ref t6, rfl, rfl, hat6, ?_, ?_⟩
        · have := sel_len u vr
          rw [sizeLine_eq]
          omega
        · have b6 : But p H2 (upd (upd H5 t6 (.tup [.str "number", .int 7])) l (.lst (selW u vr ++ [.ref t6]))) := but_off (But.same s6) hl
          obtain ⟨x2, y2, hp2⟩ := g1.2
          have nlp : l ≠ p := hp2.ne hl
          have hp6 : Pot (upd (upd H5 t6 (.tup [.str "number", .int 7])) l (.lst (selW u vr ++ [.ref t6]))) p x2 y2 n2 := ⟨by rw [upd_ne nlp.symm]; exact s6 _ _ hp2.at_, hp2.x0, hp2.y0, hp2.y1⟩
          have D6 : Dh K p _ (.ref at_) (.tuple (.str u :: rest)) := hD.but b6
          obtain ⟨xs6, hq6, ha6⟩ := dp_rtup D6.un
          obtain ⟨v6, vr6, rfl, gu6, gr6⟩ := dpAll_head ha6
          cases gu6
          have hvr6 := gr6.len
          have dS6 := sel_dp u gr6
          refine ⟨_, rfl, at_, u, vr6, rfl, hq6, by omega, by omega, fun l7 H7 hl7 s7 hat7 => ?_⟩
          refine ⟨_, rfl, at_, u, vr6, rfl, sqT_mono s7 hq6, by omega, by omega, fun l8 H8 hl8 s8 hat8 => ?_⟩
          have s68 := s7.trans s8
          refine ⟨.list (selW u rest), .list (selW u rest), .lst (SqL.of (s8 _ _ hat7)) (dS6.mono s68), .lst (SqL.of hat8) (dS6.mono s68), shS, shS, _, rfl, iteF' (by rw [SeqAt.eqv_refl _ (SeqAt.canLay_of_shaped shS)]; rfl) ?_⟩
          have D8 : Dh K p H8 (.ref at_) (.tuple (.str u :: rest)) := D6.but (But.same s68)
          refine ⟨_, rfl, .ref at_, _, rfl, D8.un, shT, _, rfl, rfl, _, rfl, iteF' (by rw [decide_eq_true rfl]; rfl) ?_⟩
          refine ⟨_, rfl, _, rfl, p, x2, y2, n2, .ref at_, _, rfl, hp6.same s68, D8, okt, htm, fun v9 e H9 oe De g9 => ?_⟩
          have shB := oe.shownB (by decide) (by decide)
          refine ⟨_, rfl, v9, e, rfl, De.un, shB, ?_⟩
          refine ⟨_, rfl, v9, e, rfl, De.un, oe.sh, by have := oe.wt; omega, fun H10 s10 => ?_⟩
          refine ⟨_, rfl, .bl (termB e), .bool (termB e), "bool", rfl, .bl _, by decide, _, rfl, iteF ?_⟩
          refine ⟨_, rfl, _, rfl, v9, e, rfl, De.un.mono s10, oe.sh, oe.lay, Nat.lt_succ_of_le oe.dep, by decide, fun H11 s11 => ⟨rfl, _, rfl, iteF' (by rw [decide_eq_true rfl]; rfl) ?_⟩⟩
          refine ⟨_, rfl, v9, e, rfl, (De.un.mono s10).mono s11, shB, _, rfl, rfl, _, rfl, iteF' (by rw [decide_eq_true rfl]; rfl) ?_⟩
          refine ⟨⟨_, _, _, _, _, _, rfl⟩, ?_⟩
          have bAll : But p (upd (upd H' p0 (.lst [.int x, .int y])) l0 (.lst [.int 24])) H11 := ((((bS.trans g1.1).trans b6).trans (But.same s68)).trans g9.1).trans (But.same (s10.trans s11))
          exact sqL_but hpn hSs bAll
      · exact q H'
end
end K16
set_option Elab.async false
set_option linter.all false
set_option maxRecDepth 100000
set_option maxHeartbeats 8000000
namespace K16
open PySem PySem.Spec PyProof.Rows L2
open C8 (Cal Def cal0 pe_c fnBody fnScope fnArgs)
/-- a def of the module's top -/
theorem def_mk {K : PySem.W.Frag} {h : Heap} {mg : Str → Option Value} (X : K.In h) (G : h.Ns mainGlobals mg) {x : Str} {st : Stmt} {f : Addr} {oc : Value} {od an : Option Addr} {osl : Array (Option Value)} {kV doc pm cdv ct : Value}
    (a : PySem.W.nsIn K mainGlobals x = some (some (.ref f)))
    (l : K.lookup f = some ⟨oc, od, .func (PySem.W.fnOf x x (fnArgs st) (fnBody st) (fnScope st) .none kV doc pm an cdv ct), osl⟩)
    (c : PySem.W.codeIn K cdv x = true) (k : PySem.W.keepIn K (.ref f) = true) : Def K mg x st f (PySem.W.fnOf x x (fnArgs st) (fnBody st) (fnScope st) .none kV doc pm an cdv ct) :=
  ⟨⟨⟨oc, od, .none, kV, doc, pm, an, cdv, ct, osl, rfl, l, c⟩⟩, PySem.W.mg_of X G a, k⟩
theorem all_mk {l : PySem.W.OpenLaw} {w : World} {K : PySem.W.Frag} {h : Heap} {mg : Str → Option Value} {fa aK aV aC e1 e2 e3 e4 e5 e6 e7 e8 e9 e10 e11 e12 : Addr} {eo1 : Option Addr} {ei1 : Array Value} {en1 : Nat} {es1 : Array (Option Value)} {eo2 : Option Addr} {ei2 : Array Value} {en2 : Nat} {es2 : Array (Option Value)} {eo3 : Option Addr} {ei3 : Array Value} {en3 : Nat} {es3 : Array (Option Value)} {eo4 : Option Addr} {ei4 : Array Value} {en4 : Nat} {es4 : Array (Option Value)} {eo5 : Option Addr} {ei5 : Array Value} {en5 : Nat} {es5 : Array (Option Value)} {eo6 : Option Addr} {ei6 : Array Value} {en6 : Nat} {es6 : Array (Option Value)} {eo7 : Option Addr} {ei7 : Array Value} {en7 : Nat} {es7 : Array (Option Value)} {eo8 : Option Addr} {ei8 : Array Value} {en8 : Nat} {es8 : Array (Option Value)} {eo9 : Option Addr} {ei9 : Array Value} {en9 : Nat} {es9 : Array (Option Value)} {eo10 : Option Addr} {ei10 : Array Value} {en10 : Nat} {es10 : Array (Option Value)} {eo11 : Option Addr} {ei11 : Array Value} {en11 : Nat} {es11 : Array (Option Value)} {eo12 : Option Addr} {ei12 : Array Value} {en12 : Nat} {es12 : Array (Option Value)} (X : K.In h) (G : h.Ns mainGlobals mg) (hfa : mg "law" = some (.ref fa))
    {f1 : Addr} {od1 an1 : Option Addr} {sl1 : Array (Option Value)} {oc1 kV1 dc1 pm1 cd1 ct1 : Value}
    {f2 : Addr} {od2 an2 : Option Addr} {sl2 : Array (Option Value)} {oc2 kV2 dc2 pm2 cd2 ct2 : Value}
    {f3 : Addr} {od3 an3 : Option Addr} {sl3 : Array (Option Value)} {oc3 kV3 dc3 pm3 cd3 ct3 : Value}
    {f4 : Addr} {od4 an4 : Option Addr} {sl4 : Array (Option Value)} {oc4 kV4 dc4 pm4 cd4 ct4 : Value}
    {f5 : Addr} {od5 an5 : Option Addr} {sl5 : Array (Option Value)} {oc5 kV5 dc5 pm5 cd5 ct5 : Value}
    {f6 : Addr} {od6 an6 : Option Addr} {sl6 : Array (Option Value)} {oc6 kV6 dc6 pm6 cd6 ct6 : Value}
    {f7 : Addr} {od7 an7 : Option Addr} {sl7 : Array (Option Value)} {oc7 kV7 dc7 pm7 cd7 ct7 : Value}
    {f8 : Addr} {od8 an8 : Option Addr} {sl8 : Array (Option Value)} {oc8 kV8 dc8 pm8 cd8 ct8 : Value}
    {f9 : Addr} {od9 an9 : Option Addr} {sl9 : Array (Option Value)} {oc9 kV9 dc9 pm9 cd9 ct9 : Value}
    {f10 : Addr} {od10 an10 : Option Addr} {sl10 : Array (Option Value)} {oc10 kV10 dc10 pm10 cd10 ct10 : Value}
    {f11 : Addr} {od11 an11 : Option Addr} {sl11 : Array (Option Value)} {oc11 kV11 dc11 pm11 cd11 ct11 : Value}
    {f12 : Addr} {od12 an12 : Option Addr} {sl12 : Array (Option Value)} {oc12 kV12 dc12 pm12 cd12 ct12 : Value}
    {f13 : Addr} {od13 an13 : Option Addr} {sl13 : Array (Option Value)} {oc13 kV13 dc13 pm13 cd13 ct13 : Value}
    {f14 : Addr} {od14 an14 : Option Addr} {sl14 : Array (Option Value)} {oc14 kV14 dc14 pm14 cd14 ct14 : Value}
    {f15 : Addr} {od15 an15 : Option Addr} {sl15 : Array (Option Value)} {oc15 kV15 dc15 pm15 cd15 ct15 : Value}
    {f16 : Addr} {od16 an16 : Option Addr} {sl16 : Array (Option Value)} {oc16 kV16 dc16 pm16 cd16 ct16 : Value}
    {f17 : Addr} {od17 an17 : Option Addr} {sl17 : Array (Option Value)} {oc17 kV17 dc17 pm17 cd17 ct17 : Value}
    {f18 : Addr} {od18 an18 : Option Addr} {sl18 : Array (Option Value)} {oc18 kV18 dc18 pm18 cd18 ct18 : Value}
    {f19 : Addr} {od19 an19 : Option Addr} {sl19 : Array (Option Value)} {oc19 kV19 dc19 pm19 cd19 ct19 : Value}
    {f20 : Addr} {od20 an20 : Option Addr} {sl20 : Array (Option Value)} {oc20 kV20 dc20 pm20 cd20 ct20 : Value}
    {f21 : Addr} {od21 an21 : Option Addr} {sl21 : Array (Option Value)} {oc21 kV21 dc21 pm21 cd21 ct21 : Value}
    {f22 : Addr} {od22 an22 : Option Addr} {sl22 : Array (Option Value)} {oc22 kV22 dc22 pm22 cd22 ct22 : Value}
    {f23 : Addr} {od23 an23 : Option Addr} {sl23 : Array (Option Value)} {oc23 kV23 dc23 pm23 cd23 ct23 : Value}
    {f24 : Addr} {od24 an24 : Option Addr} {sl24 : Array (Option Value)} {oc24 kV24 dc24 pm24 cd24 ct24 : Value}
    {dK dV : Option Addr} {iK iV : Array Value} {nK nV nE : Nat} {sK sV : Array (Option Value)} {uL uN uM : Value} {es : Array DictEntry}
    (a1 : PySem.W.nsIn K mainGlobals "is_name" = some (some (.ref f1))) (l1 : K.lookup f1 = some ⟨oc1, od1, .func (PySem.W.fnOf "is_name" "is_name" (fnArgs sPIsName) (fnBody sPIsName) (fnScope sPIsName) .none kV1 dc1 pm1 an1 cd1 ct1), sl1⟩) (c1 : PySem.W.codeIn K cd1 "is_name" = true) (k1 : PySem.W.keepIn K (.ref f1) = true)
    (a2 : PySem.W.nsIn K mainGlobals "is_kind" = some (some (.ref f2))) (l2 : K.lookup f2 = some ⟨oc2, od2, .func (PySem.W.fnOf "is_kind" "is_kind" (fnArgs sPIsKind) (fnBody sPIsKind) (fnScope sPIsKind) .none kV2 dc2 pm2 an2 cd2 ct2), sl2⟩) (c2 : PySem.W.codeIn K cd2 "is_kind" = true) (k2 : PySem.W.keepIn K (.ref f2) = true)
    (a3 : PySem.W.nsIn K mainGlobals "_is_pair" = some (some (.ref f3))) (l3 : K.lookup f3 = some ⟨oc3, od3, .func (PySem.W.fnOf "_is_pair" "_is_pair" (fnArgs sPIsPair) (fnBody sPIsPair) (fnScope sPIsPair) .none kV3 dc3 pm3 an3 cd3 ct3), sl3⟩) (c3 : PySem.W.codeIn K cd3 "_is_pair" = true) (k3 : PySem.W.keepIn K (.ref f3) = true)
    (a4 : PySem.W.nsIn K mainGlobals "is_number" = some (some (.ref f4))) (l4 : K.lookup f4 = some ⟨oc4, od4, .func (PySem.W.fnOf "is_number" "is_number" (fnArgs sPIsNumber) (fnBody sPIsNumber) (fnScope sPIsNumber) .none kV4 dc4 pm4 an4 cd4 ct4), sl4⟩) (c4 : PySem.W.codeIn K cd4 "is_number" = true) (k4 : PySem.W.keepIn K (.ref f4) = true)
    (a5 : PySem.W.nsIn K mainGlobals "is_term" = some (some (.ref f5))) (l5 : K.lookup f5 = some ⟨oc5, od5, .func (PySem.W.fnOf "is_term" "is_term" (fnArgs sPIsTerm) (fnBody sPIsTerm) (fnScope sPIsTerm) .none kV5 dc5 pm5 an5 cd5 ct5), sl5⟩) (c5 : PySem.W.codeIn K cd5 "is_term" = true) (k5 : PySem.W.keepIn K (.ref f5) = true)
    (a6 : PySem.W.nsIn K mainGlobals "_is_shaped" = some (some (.ref f6))) (l6 : K.lookup f6 = some ⟨oc6, od6, .func (PySem.W.fnOf "_is_shaped" "_is_shaped" (fnArgs sPIsShaped) (fnBody sPIsShaped) (fnScope sPIsShaped) .none kV6 dc6 pm6 an6 cd6 ct6), sl6⟩) (c6 : PySem.W.codeIn K cd6 "_is_shaped" = true) (k6 : PySem.W.keepIn K (.ref f6) = true)
    (a7 : PySem.W.nsIn K mainGlobals "_is_leaf_part" = some (some (.ref f7))) (l7 : K.lookup f7 = some ⟨oc7, od7, .func (PySem.W.fnOf "_is_leaf_part" "_is_leaf_part" (fnArgs sPIsLeafPart) (fnBody sPIsLeafPart) (fnScope sPIsLeafPart) .none kV7 dc7 pm7 an7 cd7 ct7), sl7⟩) (c7 : PySem.W.codeIn K cd7 "_is_leaf_part" = true) (k7 : PySem.W.keepIn K (.ref f7) = true)
    (a8 : PySem.W.nsIn K mainGlobals "parts_of" = some (some (.ref f8))) (l8 : K.lookup f8 = some ⟨oc8, od8, .func (PySem.W.fnOf "parts_of" "parts_of" (fnArgs sPPartsOf) (fnBody sPPartsOf) (fnScope sPPartsOf) .none kV8 dc8 pm8 an8 cd8 ct8), sl8⟩) (c8 : PySem.W.codeIn K cd8 "parts_of" = true) (k8 : PySem.W.keepIn K (.ref f8) = true)
    (a9 : PySem.W.nsIn K mainGlobals "_law_cell_at" = some (some (.ref f9))) (l9 : K.lookup f9 = some ⟨oc9, od9, .func (PySem.W.fnOf "_law_cell_at" "_law_cell_at" (fnArgs sLCellAt) (fnBody sLCellAt) (fnScope sLCellAt) .none kV9 dc9 pm9 an9 cd9 ct9), sl9⟩) (c9 : PySem.W.codeIn K cd9 "_law_cell_at" = true) (k9 : PySem.W.keepIn K (.ref f9) = true)
    (a10 : PySem.W.nsIn K mainGlobals "_law_pot" = some (some (.ref f10))) (l10 : K.lookup f10 = some ⟨oc10, od10, .func (PySem.W.fnOf "_law_pot" "_law_pot" (fnArgs sLPot) (fnBody sLPot) (fnScope sLPot) .none kV10 dc10 pm10 an10 cd10 ct10), sl10⟩) (c10 : PySem.W.codeIn K cd10 "_law_pot" = true) (k10 : PySem.W.keepIn K (.ref f10) = true)
    (a11 : PySem.W.nsIn K mainGlobals "_law_take" = some (some (.ref f11))) (l11 : K.lookup f11 = some ⟨oc11, od11, .func (PySem.W.fnOf "_law_take" "_law_take" (fnArgs sLTake) (fnBody sLTake) (fnScope sLTake) .none kV11 dc11 pm11 an11 cd11 ct11), sl11⟩) (c11 : PySem.W.codeIn K cd11 "_law_take" = true) (k11 : PySem.W.keepIn K (.ref f11) = true)
    (a12 : PySem.W.nsIn K mainGlobals "_law_called" = some (some (.ref f12))) (l12 : K.lookup f12 = some ⟨oc12, od12, .func (PySem.W.fnOf "_law_called" "_law_called" (fnArgs sLCalled) (fnBody sLCalled) (fnScope sLCalled) .none kV12 dc12 pm12 an12 cd12 ct12), sl12⟩) (c12 : PySem.W.codeIn K cd12 "_law_called" = true) (k12 : PySem.W.keepIn K (.ref f12) = true)
    (a13 : PySem.W.nsIn K mainGlobals "_law_kind" = some (some (.ref f13))) (l13 : K.lookup f13 = some ⟨oc13, od13, .func (PySem.W.fnOf "_law_kind" "_law_kind" (fnArgs sLKind) (fnBody sLKind) (fnScope sLKind) .none kV13 dc13 pm13 an13 cd13 ct13), sl13⟩) (c13 : PySem.W.codeIn K cd13 "_law_kind" = true) (k13 : PySem.W.keepIn K (.ref f13) = true)
    (a14 : PySem.W.nsIn K mainGlobals "_law_term" = some (some (.ref f14))) (l14 : K.lookup f14 = some ⟨oc14, od14, .func (PySem.W.fnOf "_law_term" "_law_term" (fnArgs sLTerm) (fnBody sLTerm) (fnScope sLTerm) .none kV14 dc14 pm14 an14 cd14 ct14), sl14⟩) (c14 : PySem.W.codeIn K cd14 "_law_term" = true) (k14 : PySem.W.keepIn K (.ref f14) = true)
    (a15 : PySem.W.nsIn K mainGlobals "_law_inner" = some (some (.ref f15))) (l15 : K.lookup f15 = some ⟨oc15, od15, .func (PySem.W.fnOf "_law_inner" "_law_inner" (fnArgs sLInner) (fnBody sLInner) (fnScope sLInner) .none kV15 dc15 pm15 an15 cd15 ct15), sl15⟩) (c15 : PySem.W.codeIn K cd15 "_law_inner" = true) (k15 : PySem.W.keepIn K (.ref f15) = true)
    (a16 : PySem.W.nsIn K mainGlobals "_law_leaf" = some (some (.ref f16))) (l16 : K.lookup f16 = some ⟨oc16, od16, .func (PySem.W.fnOf "_law_leaf" "_law_leaf" (fnArgs sLLeaf) (fnBody sLLeaf) (fnScope sLLeaf) .none kV16 dc16 pm16 an16 cd16 ct16), sl16⟩) (c16 : PySem.W.codeIn K cd16 "_law_leaf" = true) (k16 : PySem.W.keepIn K (.ref f16) = true)
    (a17 : PySem.W.nsIn K mainGlobals "_law_is_name" = some (some (.ref f17))) (l17 : K.lookup f17 = some ⟨oc17, od17, .func (PySem.W.fnOf "_law_is_name" "_law_is_name" (fnArgs sLIsName) (fnBody sLIsName) (fnScope sLIsName) .none kV17 dc17 pm17 an17 cd17 ct17), sl17⟩) (c17 : PySem.W.codeIn K cd17 "_law_is_name" = true) (k17 : PySem.W.keepIn K (.ref f17) = true)
    (a18 : PySem.W.nsIn K mainGlobals "_law_is_kind" = some (some (.ref f18))) (l18 : K.lookup f18 = some ⟨oc18, od18, .func (PySem.W.fnOf "_law_is_kind" "_law_is_kind" (fnArgs sLIsKind) (fnBody sLIsKind) (fnScope sLIsKind) .none kV18 dc18 pm18 an18 cd18 ct18), sl18⟩) (c18 : PySem.W.codeIn K cd18 "_law_is_kind" = true) (k18 : PySem.W.keepIn K (.ref f18) = true)
    (a19 : PySem.W.nsIn K mainGlobals "_law_many" = some (some (.ref f19))) (l19 : K.lookup f19 = some ⟨oc19, od19, .func (PySem.W.fnOf "_law_many" "_law_many" (fnArgs sLMany) (fnBody sLMany) (fnScope sLMany) .none kV19 dc19 pm19 an19 cd19 ct19), sl19⟩) (c19 : PySem.W.codeIn K cd19 "_law_many" = true) (k19 : PySem.W.keepIn K (.ref f19) = true)
    (a20 : PySem.W.nsIn K mainGlobals "_law_is_leaf" = some (some (.ref f20))) (l20 : K.lookup f20 = some ⟨oc20, od20, .func (PySem.W.fnOf "_law_is_leaf" "_law_is_leaf" (fnArgs sLIsLeaf) (fnBody sLIsLeaf) (fnScope sLIsLeaf) .none kV20 dc20 pm20 an20 cd20 ct20), sl20⟩) (c20 : PySem.W.codeIn K cd20 "_law_is_leaf" = true) (k20 : PySem.W.keepIn K (.ref f20) = true)
    (a21 : PySem.W.nsIn K mainGlobals "_law_is_term" = some (some (.ref f21))) (l21 : K.lookup f21 = some ⟨oc21, od21, .func (PySem.W.fnOf "_law_is_term" "_law_is_term" (fnArgs sLIsTerm) (fnBody sLIsTerm) (fnScope sLIsTerm) .none kV21 dc21 pm21 an21 cd21 ct21), sl21⟩) (c21 : PySem.W.codeIn K cd21 "_law_is_term" = true) (k21 : PySem.W.keepIn K (.ref f21) = true)
    (a22 : PySem.W.nsIn K mainGlobals "_law_within" = some (some (.ref f22))) (l22 : K.lookup f22 = some ⟨oc22, od22, .func (PySem.W.fnOf "_law_within" "_law_within" (fnArgs sLWithin) (fnBody sLWithin) (fnScope sLWithin) .none kV22 dc22 pm22 an22 cd22 ct22), sl22⟩) (c22 : PySem.W.codeIn K cd22 "_law_within" = true) (k22 : PySem.W.keepIn K (.ref f22) = true)
    (a23 : PySem.W.nsIn K mainGlobals "_law_other" = some (some (.ref f23))) (l23 : K.lookup f23 = some ⟨oc23, od23, .func (PySem.W.fnOf "_law_other" "_law_other" (fnArgs sLOther) (fnBody sLOther) (fnScope sLOther) .none kV23 dc23 pm23 an23 cd23 ct23), sl23⟩) (c23 : PySem.W.codeIn K cd23 "_law_other" = true) (k23 : PySem.W.keepIn K (.ref f23) = true)
    (a24 : PySem.W.nsIn K mainGlobals "law" = some (some (.ref f24))) (l24 : K.lookup f24 = some ⟨oc24, od24, .func (PySem.W.fnOf "law" "law" (fnArgs sLaw) (fnBody sLaw) (fnScope sLaw) .none kV24 dc24 pm24 an24 cd24 ct24), sl24⟩) (c24 : PySem.W.codeIn K cd24 "law" = true) (k24 : PySem.W.keepIn K (.ref f24) = true)
    (z_isinstance : PySem.W.nsIn K mainGlobals "isinstance" = some none)
    (z_str : PySem.W.nsIn K mainGlobals "str" = some none)
    (z_tuple : PySem.W.nsIn K mainGlobals "tuple" = some none)
    (z_list : PySem.W.nsIn K mainGlobals "list" = some none)
    (z_bool : PySem.W.nsIn K mainGlobals "bool" = some none)
    (z_len : PySem.W.nsIn K mainGlobals "len" = some none)
    (z_range : PySem.W.nsIn K mainGlobals "range" = some none)
    (z_max : PySem.W.nsIn K mainGlobals "max" = some none)
    (z_min : PySem.W.nsIn K mainGlobals "min" = some none)
    (z_repr : PySem.W.nsIn K mainGlobals "repr" = some none)
    (z_int : PySem.W.nsIn K mainGlobals "int" = some none)
    (gL : PySem.W.nsIn K mainGlobals "LONGEST_NAME" = some (some uL)) (gN : PySem.W.nsIn K mainGlobals "NUMBERS" = some (some uN)) (gM : PySem.W.nsIn K mainGlobals "MOST_LISTED" = some (some uM))
    (gK : PySem.W.nsIn K mainGlobals "KEPT_WORDS" = some (some (.ref aK))) (lK : K.lookup aK = some ⟨.type "tuple", dK, .seq iK nK, sK⟩)
    (gV : PySem.W.nsIn K mainGlobals "LEAVES" = some (some (.ref aV))) (lV : K.lookup aV = some ⟨.type "tuple", dV, .seq iV nV, sV⟩)
    (gC : PySem.W.nsIn K mainGlobals "SORTS" = some (some (.ref aC))) (lC : K.lookup aC = some ⟨.type "dict", none, .dict es nE, #[]⟩)
    (rL : RelV (.int 8) uL) (rN : RelV (.int 1000000000000) uN) (rM : RelV (.int 8) uM)
    (vK : Vals [.str "number", .str "truth", .str "yes", .str "no"] iK.toList) (hz : iK.size ≤ sizeLine)
    (vV : Vals [.str "number", .str "truth", .str "name", .str "box", .str "empty"] iV.toList) (hv : iV.size ≤ sizeLine)
    (kC : PySem.W.KeysLit w.params es.toList) (wC : (aC == sysModules) = false) (eC : EntsV es.toList [("add", V.ref e1), ("less", V.ref e2), ("times", V.ref e3), ("under", V.ref e4), ("same", V.ref e5), ("both", V.ref e6), ("join", V.ref e7), ("not", V.ref e8), ("many", V.ref e9), ("pick", V.ref e10), ("at", V.ref e11), ("field", V.ref e12)])
    (le1 : K.lookup e1 = some ⟨.type "tuple", eo1, .seq ei1 en1, es1⟩) (ve1 : Vals ([.str "number", .str "number"] : List V) ei1.toList) (ze1 : ei1.size ≤ sizeLine)
    (le2 : K.lookup e2 = some ⟨.type "tuple", eo2, .seq ei2 en2, es2⟩) (ve2 : Vals ([.str "number", .str "number"] : List V) ei2.toList) (ze2 : ei2.size ≤ sizeLine)
    (le3 : K.lookup e3 = some ⟨.type "tuple", eo3, .seq ei3 en3, es3⟩) (ve3 : Vals ([.str "number", .str "number"] : List V) ei3.toList) (ze3 : ei3.size ≤ sizeLine)
    (le4 : K.lookup e4 = some ⟨.type "tuple", eo4, .seq ei4 en4, es4⟩) (ve4 : Vals ([.str "number", .str "number"] : List V) ei4.toList) (ze4 : ei4.size ≤ sizeLine)
    (le5 : K.lookup e5 = some ⟨.type "tuple", eo5, .seq ei5 en5, es5⟩) (ve5 : Vals ([.str "", .str ""] : List V) ei5.toList) (ze5 : ei5.size ≤ sizeLine)
    (le6 : K.lookup e6 = some ⟨.type "tuple", eo6, .seq ei6 en6, es6⟩) (ve6 : Vals ([.str "truth", .str "truth"] : List V) ei6.toList) (ze6 : ei6.size ≤ sizeLine)
    (le7 : K.lookup e7 = some ⟨.type "tuple", eo7, .seq ei7 en7, es7⟩) (ve7 : Vals ([.str "list", .str "list"] : List V) ei7.toList) (ze7 : ei7.size ≤ sizeLine)
    (le8 : K.lookup e8 = some ⟨.type "tuple", eo8, .seq ei8 en8, es8⟩) (ve8 : Vals ([.str "truth"] : List V) ei8.toList) (ze8 : ei8.size ≤ sizeLine)
    (le9 : K.lookup e9 = some ⟨.type "tuple", eo9, .seq ei9 en9, es9⟩) (ve9 : Vals ([.str "list"] : List V) ei9.toList) (ze9 : ei9.size ≤ sizeLine)
    (le10 : K.lookup e10 = some ⟨.type "tuple", eo10, .seq ei10 en10, es10⟩) (ve10 : Vals ([.str "truth", .str "", .str ""] : List V) ei10.toList) (ze10 : ei10.size ≤ sizeLine)
    (le11 : K.lookup e11 = some ⟨.type "tuple", eo11, .seq ei11 en11, es11⟩) (ve11 : Vals ([.str "list", .str "number", .str ""] : List V) ei11.toList) (ze11 : ei11.size ≤ sizeLine)
    (le12 : K.lookup e12 = some ⟨.type "tuple", eo12, .seq ei12 en12, es12⟩) (ve12 : Vals ([.str "record"] : List V) ei12.toList) (ze12 : ei12.size ≤ sizeLine) :
    ∃ fd : FuncData, (∀ (s : Shared) (v : Value), BindsTo s fd ⟨[v], []⟩ [("_law_script", v)]) ∧ ∀ base : Heap, K.In base → base.Ns mainGlobals mg → FnG l.prog w K mg base C8.CX0 26 fa fd ["_law_script"] (spLaw K) := by
  have e := hfa.symm.trans (PySem.W.mg_of X G a24)
  cases e
  have D1 := def_mk (st := sPIsName) X G a1 l1 c1 k1
  have D2 := def_mk (st := sPIsKind) X G a2 l2 c2 k2
  have D3 := def_mk (st := sPIsPair) X G a3 l3 c3 k3
  have D4 := def_mk (st := sPIsNumber) X G a4 l4 c4 k4
  have D5 := def_mk (st := sPIsTerm) X G a5 l5 c5 k5
  have D6 := def_mk (st := sPIsShaped) X G a6 l6 c6 k6
  have D7 := def_mk (st := sPIsLeafPart) X G a7 l7 c7 k7
  have D8 := def_mk (st := sPPartsOf) X G a8 l8 c8 k8
  have D9 := def_mk (st := sLCellAt) X G a9 l9 c9 k9
  have D10 := def_mk (st := sLPot) X G a10 l10 c10 k10
  have D11 := def_mk (st := sLTake) X G a11 l11 c11 k11
  have D12 := def_mk (st := sLCalled) X G a12 l12 c12 k12
  have D13 := def_mk (st := sLKind) X G a13 l13 c13 k13
  have D14 := def_mk (st := sLTerm) X G a14 l14 c14 k14
  have D15 := def_mk (st := sLInner) X G a15 l15 c15 k15
  have D16 := def_mk (st := sLLeaf) X G a16 l16 c16 k16
  have D17 := def_mk (st := sLIsName) X G a17 l17 c17 k17
  have D18 := def_mk (st := sLIsKind) X G a18 l18 c18 k18
  have D19 := def_mk (st := sLMany) X G a19 l19 c19 k19
  have D20 := def_mk (st := sLIsLeaf) X G a20 l20 c20 k20
  have D21 := def_mk (st := sLIsTerm) X G a21 l21 c21 k21
  have D22 := def_mk (st := sLWithin) X G a22 l22 c22 k22
  have D23 := def_mk (st := sLOther) X G a23 l23 c23 k23
  have D24 := def_mk (st := sLaw) X G a24 l24 c24 k24
  have b1 := D1.fn.binds rfl (ps := ["thing"]) fun _ _ _ _ _ _ us hl => match us, hl with | [_], _ => rfl
  have b2 := D2.fn.binds rfl (ps := ["thing"]) fun _ _ _ _ _ _ us hl => match us, hl with | [_], _ => rfl
  have b3 := D3.fn.binds rfl (ps := ["thing", "word"]) fun _ _ _ _ _ _ us hl => match us, hl with | [_, _], _ => rfl
  have b4 := D4.fn.binds rfl (ps := ["thing"]) fun _ _ _ _ _ _ us hl => match us, hl with | [_], _ => rfl
  have b5 := D5.fn.binds rfl (ps := ["thing"]) fun _ _ _ _ _ _ us hl => match us, hl with | [_], _ => rfl
  have b6 := D6.fn.binds rfl (ps := ["thing"]) fun _ _ _ _ _ _ us hl => match us, hl with | [_], _ => rfl
  have b7 := D7.fn.binds rfl (ps := ["word", "part"]) fun _ _ _ _ _ _ us hl => match us, hl with | [_, _], _ => rfl
  have b8 := D8.fn.binds rfl (ps := ["term"]) fun _ _ _ _ _ _ us hl => match us, hl with | [_], _ => rfl
  have b9 := D9.fn.binds rfl (ps := ["_law_script", "_law_k"]) fun _ _ _ _ _ _ us hl => match us, hl with | [_, _], _ => rfl
  have b10 := D10.fn.binds rfl (ps := ["_law_cell", "_law_k"]) fun _ _ _ _ _ _ us hl => match us, hl with | [_, _], _ => rfl
  have b11 := D11.fn.binds rfl (ps := ["_law_pot_here", "_law_many_here"]) fun _ _ _ _ _ _ us hl => match us, hl with | [_, _], _ => rfl
  have b12 := D12.fn.binds rfl (ps := ["_law_pot_here"]) fun _ _ _ _ _ _ us hl => match us, hl with | [_], _ => rfl
  have b13 := D13.fn.binds rfl (ps := ["_law_pot_here", "_law_deep"]) fun _ _ _ _ _ _ us hl => match us, hl with | [_, _], _ => rfl
  have b14 := D14.fn.binds rfl (ps := ["_law_pot_here", "_law_deep"]) fun _ _ _ _ _ _ us hl => match us, hl with | [_, _], _ => rfl
  have b15 := D15.fn.binds rfl (ps := ["_law_pot_here", "_law_deep"]) fun _ _ _ _ _ _ us hl => match us, hl with | [_, _], _ => rfl
  have b16 := D16.fn.binds rfl (ps := ["_law_pot_here"]) fun _ _ _ _ _ _ us hl => match us, hl with | [_], _ => rfl
  have b17 := D17.fn.binds rfl (ps := ["_law_thing"]) fun _ _ _ _ _ _ us hl => match us, hl with | [_], _ => rfl
  have b18 := D18.fn.binds rfl (ps := ["_law_thing"]) fun _ _ _ _ _ _ us hl => match us, hl with | [_], _ => rfl
  have b19 := D19.fn.binds rfl (ps := ["_law_word", "_law_many_here"]) fun _ _ _ _ _ _ us hl => match us, hl with | [_, _], _ => rfl
  have b20 := D20.fn.binds rfl (ps := ["_law_word", "_law_part"]) fun _ _ _ _ _ _ us hl => match us, hl with | [_, _], _ => rfl
  have b21 := D21.fn.binds rfl (ps := ["_law_thing"]) fun _ _ _ _ _ _ us hl => match us, hl with | [_], _ => rfl
  have b22 := D22.fn.binds rfl (ps := ["_law_term_here"]) fun _ _ _ _ _ _ us hl => match us, hl with | [_], _ => rfl
  have b23 := D23.fn.binds rfl (ps := ["_law_pot_here", "_law_term_here"]) fun _ _ _ _ _ _ us hl => match us, hl with | [_, _], _ => rfl
  have T : Tp mg := ⟨PySem.W.mg_none_of X G z_isinstance, PySem.W.mg_none_of X G z_str, PySem.W.mg_none_of X G z_tuple, PySem.W.mg_none_of X G z_list, PySem.W.mg_none_of X G z_bool, PySem.W.mg_none_of X G z_len, PySem.W.mg_none_of X G z_range, PySem.W.mg_none_of X G z_max, PySem.W.mg_none_of X G z_min, PySem.W.mg_none_of X G z_repr, PySem.W.mg_none_of X G z_int, ⟨uN, PySem.W.mg_of X G gN, rN⟩, ⟨uM, PySem.W.mg_of X G gM, rM⟩, ⟨uL, PySem.W.mg_of X G gL, rL⟩⟩
  have TK : Kept K mg aK := ⟨⟨_, PySem.W.mg_of X G gK, rfl⟩, fun H => .inr ⟨_, iK, nK, lK, rfl, rfl, hz, vK⟩⟩
  have TV : Lv K mg aV := ⟨⟨_, PySem.W.mg_of X G gV, rfl⟩, fun H => .inr ⟨_, iV, nV, lV, rfl, rfl, hv, vV⟩⟩
  have TC : Ct K w mg aC es nE [("add", V.ref e1), ("less", V.ref e2), ("times", V.ref e3), ("under", V.ref e4), ("same", V.ref e5), ("both", V.ref e6), ("join", V.ref e7), ("not", V.ref e8), ("many", V.ref e9), ("pick", V.ref e10), ("at", V.ref e11), ("field", V.ref e12)] := ⟨⟨_, PySem.W.mg_of X G gC, rfl⟩, ⟨lC, kC, wC⟩, eC, .cons ⟨rfl, e1, _, rfl, sqT_K le1 ze1 ve1, rfl⟩ (.cons ⟨rfl, e2, _, rfl, sqT_K le2 ze2 ve2, rfl⟩ (.cons ⟨rfl, e3, _, rfl, sqT_K le3 ze3 ve3, rfl⟩ (.cons ⟨rfl, e4, _, rfl, sqT_K le4 ze4 ve4, rfl⟩ (.cons ⟨rfl, e5, _, rfl, sqT_K le5 ze5 ve5, rfl⟩ (.cons ⟨rfl, e6, _, rfl, sqT_K le6 ze6 ve6, rfl⟩ (.cons ⟨rfl, e7, _, rfl, sqT_K le7 ze7 ve7, rfl⟩ (.cons ⟨rfl, e8, _, rfl, sqT_K le8 ze8 ve8, rfl⟩ (.cons ⟨rfl, e9, _, rfl, sqT_K le9 ze9 ve9, rfl⟩ (.cons ⟨rfl, e10, _, rfl, sqT_K le10 ze10 ve10, rfl⟩ (.cons ⟨rfl, e11, _, rfl, sqT_K le11 ze11 ve11, rfl⟩ (.cons ⟨rfl, e12, _, rfl, sqT_K le12 ze12 ve12, rfl⟩ (.nil))))))))))))⟩
  refine ⟨PySem.W.fnOf "law" "law" (fnArgs sLaw) (fnBody sLaw) (fnScope sLaw) .none kV24 dc24 pm24 an24 cd24 ct24, fun s v => .of_eq rfl, fun base _ _ => ?_⟩
  have cTake := c_take (P := l.prog) (w := w) (base := base) D11 b11
  have cCalled := c_called T cTake D12 b12
  have cIsName := c_isName (P := l.prog) (w := w) (base := base) T TK D1 b1
  have cIsPair := c_isPair (P := l.prog) (w := w) (base := base) T D3 b3
  have cIsKind := c_isKind T cIsPair cIsName D2 b2
  have cIsNumber := c_isNumber (P := l.prog) (w := w) (base := base) T D4 b4
  have cLeafPart := c_isLeafPart T cIsNumber cIsKind cIsName D7 b7
  have cShaped := c_isShaped T TV TC cLeafPart cIsName D6 b6
  have cParts := c_partsOf (P := l.prog) (w := w) (base := base) T TV D8 b8
  have cLIsName := c_lisName (P := l.prog) (w := w) (base := base) T D17 b17
  have cLeaf := c_leaf T cTake cCalled (c_kind T cTake cCalled D13 b13 3) D16 b16
  have cLIsLeaf := c_lisLeaf T (c_lisKind T cLIsName D18 b18 11) cLIsName D20 b20
  exact f_law T (c_cellAt T D9 b9) (c_pot D10 b10) (c_term T cTake cCalled cLeaf D14 b14 D15 b15 7) cParts (c_isTerm cShaped cParts D5 b5) (c_within T D22 b22) (c_other T cTake cLeaf D23 b23) (c_lisTerm T cLIsLeaf cLIsName (c_many T D19 b19) D21 b21 12) D24
end K16
open PySem PySem.W PyProof.Rows
set_option maxHeartbeats 0 in
theorem PySem.Challenge.cw_changewhile_k16_terms_told_holds : PySem.Challenge.rw_changewhile_k16_terms_told.Holds := by
  w_on; o_law; k_head; (case hw => w_witness2)
  k_fill
  refine L2.walkG (l := PySem.Challenge.rw_changewhile_k16_terms_told) (n := 63) (k := 26) (x := "_law_script") (sp := K16.spLaw) rfl (by decide) rfl ⟨rfl, by decide, by decide⟩ (fun w h Y => PySem.W.kIn_of Y) ?F (fun K H a ns hl _ hS => ⟨a, ns, rfl, hS, hl, fun _ => rfl⟩)
  case F =>
    intro w mg fa h KX G hmg
    refine' K16.all_mk KX G hmg ?a1 ?l1 ?c1 ?k1 ?a2 ?l2 ?c2 ?k2 ?a3 ?l3 ?c3 ?k3 ?a4 ?l4 ?c4 ?k4 ?a5 ?l5 ?c5 ?k5 ?a6 ?l6 ?c6 ?k6 ?a7 ?l7 ?c7 ?k7 ?a8 ?l8 ?c8 ?k8 ?a9 ?l9 ?c9 ?k9 ?a10 ?l10 ?c10 ?k10 ?a11 ?l11 ?c11 ?k11 ?a12 ?l12 ?c12 ?k12 ?a13 ?l13 ?c13 ?k13 ?a14 ?l14 ?c14 ?k14 ?a15 ?l15 ?c15 ?k15 ?a16 ?l16 ?c16 ?k16 ?a17 ?l17 ?c17 ?k17 ?a18 ?l18 ?c18 ?k18 ?a19 ?l19 ?c19 ?k19 ?a20 ?l20 ?c20 ?k20 ?a21 ?l21 ?c21 ?k21 ?a22 ?l22 ?c22 ?k22 ?a23 ?l23 ?c23 ?k23 ?a24 ?l24 ?c24 ?k24 ?z_isinstance ?z_str ?z_tuple ?z_list ?z_bool ?z_len ?z_range ?z_max ?z_min ?z_repr ?z_int ?gL ?gN ?gM ?gK ?lK ?gV ?lV ?gC ?lC ?rL ?rN ?rM ?vK ?hz ?vV ?hv ?kC ?wC ?eC ?le1 ?ve1 ?ze1 ?le2 ?ve2 ?ze2 ?le3 ?ve3 ?ze3 ?le4 ?ve4 ?ze4 ?le5 ?ve5 ?ze5 ?le6 ?ve6 ?ze6 ?le7 ?ve7 ?ze7 ?le8 ?ve8 ?ze8 ?le9 ?ve9 ?ze9 ?le10 ?ve10 ?ze10 ?le11 ?ve11 ?ze11 ?le12 ?ve12 ?ze12
    (case a1 => k_is); (case l1 => k_is); (case c1 => k_is); (case k1 => k_is); (case a2 => k_is); (case l2 => k_is); (case c2 => k_is); (case k2 => k_is); (case a3 => k_is); (case l3 => k_is); (case c3 => k_is); (case k3 => k_is); (case a4 => k_is); (case l4 => k_is); (case c4 => k_is); (case k4 => k_is); (case a5 => k_is); (case l5 => k_is); (case c5 => k_is); (case k5 => k_is); (case a6 => k_is); (case l6 => k_is); (case c6 => k_is); (case k6 => k_is); (case a7 => k_is); (case l7 => k_is); (case c7 => k_is); (case k7 => k_is); (case a8 => k_is); (case l8 => k_is); (case c8 => k_is); (case k8 => k_is); (case a9 => k_is); (case l9 => k_is); (case c9 => k_is); (case k9 => k_is); (case a10 => k_is); (case l10 => k_is); (case c10 => k_is); (case k10 => k_is); (case a11 => k_is); (case l11 => k_is); (case c11 => k_is); (case k11 => k_is); (case a12 => k_is); (case l12 => k_is); (case c12 => k_is); (case k12 => k_is); (case a13 => k_is); (case l13 => k_is); (case c13 => k_is); (case k13 => k_is); (case a14 => k_is); (case l14 => k_is); (case c14 => k_is); (case k14 => k_is); (case a15 => k_is); (case l15 => k_is); (case c15 => k_is); (case k15 => k_is); (case a16 => k_is); (case l16 => k_is); (case c16 => k_is); (case k16 => k_is); (case a17 => k_is); (case l17 => k_is); (case c17 => k_is); (case k17 => k_is); (case a18 => k_is); (case l18 => k_is); (case c18 => k_is); (case k18 => k_is); (case a19 => k_is); (case l19 => k_is); (case c19 => k_is); (case k19 => k_is); (case a20 => k_is); (case l20 => k_is); (case c20 => k_is); (case k20 => k_is); (case a21 => k_is); (case l21 => k_is); (case c21 => k_is); (case k21 => k_is); (case a22 => k_is); (case l22 => k_is); (case c22 => k_is); (case k22 => k_is); (case a23 => k_is); (case l23 => k_is); (case c23 => k_is); (case k23 => k_is); (case a24 => k_is); (case l24 => k_is); (case c24 => k_is); (case k24 => k_is); (case z_isinstance => k_is); (case z_str => k_is); (case z_tuple => k_is); (case z_list => k_is); (case z_bool => k_is); (case z_len => k_is); (case z_range => k_is); (case z_max => k_is); (case z_min => k_is); (case z_repr => k_is); (case z_int => k_is); (case gL => k_is); (case gN => k_is); (case gM => k_is); (case gK => k_is); (case lK => k_is); (case gV => k_is); (case lV => k_is); (case gC => k_is); (case lC => k_is)
    (case rL => exact ⟨_, rfl⟩)
    (case rN => exact ⟨_, rfl⟩)
    (case rM => exact ⟨_, rfl⟩)
    (case vK => exact .cons ⟨_, rfl⟩ (.cons ⟨_, rfl⟩ (.cons ⟨_, rfl⟩ (.cons ⟨_, rfl⟩ (.nil)))))
    (case hz => rw [sizeLine_eq]; decide)
    (case vV => exact .cons ⟨_, rfl⟩ (.cons ⟨_, rfl⟩ (.cons ⟨_, rfl⟩ (.cons ⟨_, rfl⟩ (.cons ⟨_, rfl⟩ (.nil))))))
    (case hv => rw [sizeLine_eq]; decide)
    (case kC => k_keys)
    (case wC => decide)
    (case eC => exact .cons ⟨⟨_, rfl⟩, rfl⟩ (.cons ⟨⟨_, rfl⟩, rfl⟩ (.cons ⟨⟨_, rfl⟩, rfl⟩ (.cons ⟨⟨_, rfl⟩, rfl⟩ (.cons ⟨⟨_, rfl⟩, rfl⟩ (.cons ⟨⟨_, rfl⟩, rfl⟩ (.cons ⟨⟨_, rfl⟩, rfl⟩ (.cons ⟨⟨_, rfl⟩, rfl⟩ (.cons ⟨⟨_, rfl⟩, rfl⟩ (.cons ⟨⟨_, rfl⟩, rfl⟩ (.cons ⟨⟨_, rfl⟩, rfl⟩ (.cons ⟨⟨_, rfl⟩, rfl⟩ (.nil)))))))))))))
    (case le1 => k_is)
    (case ve1 => exact .cons ⟨_, rfl⟩ (.cons ⟨_, rfl⟩ (.nil)))
    (case ze1 => rw [sizeLine_eq]; decide)
    (case le2 => k_is)
    (case ve2 => exact .cons ⟨_, rfl⟩ (.cons ⟨_, rfl⟩ (.nil)))
    (case ze2 => rw [sizeLine_eq]; decide)
    (case le3 => k_is)
    (case ve3 => exact .cons ⟨_, rfl⟩ (.cons ⟨_, rfl⟩ (.nil)))
    (case ze3 => rw [sizeLine_eq]; decide)
    (case le4 => k_is)
    (case ve4 => exact .cons ⟨_, rfl⟩ (.cons ⟨_, rfl⟩ (.nil)))
    (case ze4 => rw [sizeLine_eq]; decide)
    (case le5 => k_is)
    (case ve5 => exact .cons ⟨_, rfl⟩ (.cons ⟨_, rfl⟩ (.nil)))
    (case ze5 => rw [sizeLine_eq]; decide)
    (case le6 => k_is)
    (case ve6 => exact .cons ⟨_, rfl⟩ (.cons ⟨_, rfl⟩ (.nil)))
    (case ze6 => rw [sizeLine_eq]; decide)
    (case le7 => k_is)
    (case ve7 => exact .cons ⟨_, rfl⟩ (.cons ⟨_, rfl⟩ (.nil)))
    (case ze7 => rw [sizeLine_eq]; decide)
    (case le8 => k_is)
    (case ve8 => exact .cons ⟨_, rfl⟩ (.nil))
    (case ze8 => rw [sizeLine_eq]; decide)
    (case le9 => k_is)
    (case ve9 => exact .cons ⟨_, rfl⟩ (.nil))
    (case ze9 => rw [sizeLine_eq]; decide)
    (case le10 => k_is)
    (case ve10 => exact .cons ⟨_, rfl⟩ (.cons ⟨_, rfl⟩ (.cons ⟨_, rfl⟩ (.nil))))
    (case ze10 => rw [sizeLine_eq]; decide)
    (case le11 => k_is)
    (case ve11 => exact .cons ⟨_, rfl⟩ (.cons ⟨_, rfl⟩ (.cons ⟨_, rfl⟩ (.nil))))
    (case ze11 => rw [sizeLine_eq]; decide)
    (case le12 => k_is)
    (case ve12 => exact .cons ⟨_, rfl⟩ (.nil))
    (case ze12 => rw [sizeLine_eq]; decide)
