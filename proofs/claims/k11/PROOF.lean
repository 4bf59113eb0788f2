import PyProof.Rows.All
import Wide.All
import OpenK.AllK
import Wide.FinOn
import HandS.ForMost
import HandS.Codes
import HandS.Wide
import HandS.Deep
import HandS.IsInst
import HandS.TupAny
import HandS.StrMore
import HandS.Style
import HandS.ExcOwn
import PySem.Challenge.RW_changewhile_k11_kinds_told
set_option Elab.async false
set_option linter.all false
set_option maxRecDepth 100000
set_option maxHeartbeats 4000000
namespace L2
open PySem PySem.Spec PyProof.Rows
open C8 (Cal Def cal0 pe_c fnBody fnScope fnArgs)

/-! ### heaps: all but one list stays -/
def But (p : Addr) (H H' : Hp) : Prop := ∀ b o, b ≠ p → H b = some o → H' b = some o
theorem But.refl (p : Addr) (H : Hp) : But p H H := fun _ _ _ h => h
theorem But.trans {p : Addr} {H H1 H2 : Hp} (a : But p H H1) (b : But p H1 H2) : But p H H2 := fun c o n h => b c o n (a c o n h)
theorem But.same {p : Addr} {H H1 : Hp} (a : Same H H1) : But p H H1 := fun b o _ h => a b o h
theorem Same.new {q : Addr} {H : Hp} {o : HO} (h : H q = none) : Same H (upd H q o) := fun b u e => by
  rw [upd_ne (ne_of_none e h)]
  exact e
theorem But.new {p q : Addr} {H : Hp} {o : HO} (h : H q = none) : But p H (upd H q o) := But.same (Same.new h)
theorem But.pot {p : Addr} {H H' : Hp} {o : HO} (e : But p H H') : But p H (upd H' p o) := fun b u n h => by
  rw [upd_ne n]
  exact e b u n h
def hid (p : Addr) (H : Hp) : Hp := fun b => if b = p then none else H b
theorem hid_ne {p b : Addr} {H : Hp} (h : b ≠ p) : hid p H b = H b := if_neg h
theorem hid_some {p b : Addr} {H : Hp} {o : HO} (h : hid p H b = some o) : b ≠ p ∧ H b = some o := by
  unfold hid at h
  by_cases e : b = p
  · rw [if_pos e] at h; cases h
  · rw [if_neg e] at h; exact ⟨e, h⟩
theorem hid_but {p : Addr} {H H' : Hp} (e : But p H H') : Same (hid p H) (hid p H') := fun b o h => by
  obtain ⟨n, h⟩ := hid_some h
  rw [hid_ne n]
  exact e b o n h
theorem hid_in {p : Addr} {H : Hp} : Same (hid p H) H := fun b o h => (hid_some h).2

/-! ### data -/
section
variable {K : PySem.W.Frag}
theorem sqT_mono {H H' : Hp} {a : Addr} {xs : List V} (e : Same H H') (h : SqT K H a xs) : SqT K H' a xs := by
  rcases h with (h | ⟨o, h⟩) | h
  · exact .inl (.inl (e _ _ h))
  · exact .inl (.inr ⟨o, e _ _ h⟩)
  · exact .inr h
mutual
theorem Dp.mono {H H' : Hp} (e : Same H H') : ∀ {v : V} {d : PyData}, Dp K H v d → Dp K H' v d
  | _, _, .non => .non
  | _, _, .bl b => .bl b
  | _, _, .int i => .int i
  | _, _, .str x => .str x
  | _, _, .lst h a => .lst (e.seq h) (DpAll.mono e a)
  | _, _, .tup h a => .tup (sqT_mono e h) (DpAll.mono e a)
theorem DpAll.mono {H H' : Hp} (e : Same H H') : ∀ {vs : List V} {ds : List PyData}, DpAll K H vs ds → DpAll K H' vs ds
  | _, _, .nil => .nil
  | _, _, .cons h t => .cons (Dp.mono e h) (DpAll.mono e t)
end
theorem DpAll.len {H : Hp} : ∀ {vs : List V} {ds : List PyData}, DpAll K H vs ds → vs.length = ds.length
  | _, _, .nil => rfl
  | _, _, .cons _ t => congrArg (· + 1) (DpAll.len t)
theorem DpAll.app {H : Hp} : ∀ {vs ws : List V} {ds es : List PyData}, DpAll K H vs ds → DpAll K H ws es → DpAll K H (vs ++ ws) (ds ++ es)
  | _, _, _, _, .nil, t => t
  | _, _, _, _, .cons h s, t => .cons h (DpAll.app s t)
theorem DpAll.get {H : Hp} : ∀ {vs : List V} {ds : List PyData} {i : Nat} {d : PyData}, DpAll K H vs ds → ds[i]? = some d → ∃ v, vs[i]? = some v ∧ Dp K H v d
  | _, _, _, _, .nil, h => by simp at h
  | _, _, 0, _, .cons h _, e => by
    simp at e
    subst e
    exact ⟨_, rfl, h⟩
  | _, _, i + 1, _, .cons _ t, e => by
    obtain ⟨v, h1, h2⟩ := DpAll.get t (i := i) (by simpa using e)
    exact ⟨v, by simpa using h1, h2⟩
/-- data that does not come by the pot -/
abbrev Dh (K : PySem.W.Frag) (p : Addr) (H : Hp) (v : V) (d : PyData) : Prop := Dp K (hid p H) v d
abbrev DhAll (K : PySem.W.Frag) (p : Addr) (H : Hp) (vs : List V) (ds : List PyData) : Prop := DpAll K (hid p H) vs ds
theorem Dp.un {p : Addr} {H : Hp} {v : V} {d : PyData} (h : Dh K p H v d) : Dp K H v d := Dp.mono hid_in h
theorem Dp.but {p : Addr} {H H' : Hp} {v : V} {d : PyData} (e : But p H H') (h : Dh K p H v d) : Dh K p H' v d := Dp.mono (hid_but e) h
theorem DpAll.but {p : Addr} {H H' : Hp} {vs : List V} {ds : List PyData} (e : But p H H') (h : DhAll K p H vs ds) : DhAll K p H' vs ds := DpAll.mono (hid_but e) h
/-- a new tuple, a new list -/
theorem Dp.newT {p q : Addr} {H : Hp} {xs : List V} {ds : List PyData} (hq : H q = none) (n : q ≠ p) (h : DhAll K p H xs ds) : Dh K p (upd H q (.tup xs)) (.ref q) (.tuple ds) :=
  .tup (.inl (.inl (by rw [hid_ne n, upd_same]))) (DpAll.but (But.new hq) h)
theorem Dp.newL {p q : Addr} {H : Hp} {xs : List V} {ds : List PyData} (hq : H q = none) (n : q ≠ p) (h : DhAll K p H xs ds) : Dh K p (upd H q (.lst xs)) (.ref q) (.list ds) :=
  .lst (.inl (.inl (by rw [hid_ne n, upd_same]))) (DpAll.but (But.new hq) h)
theorem Dp.newT0 {q : Addr} {H : Hp} {xs : List V} {ds : List PyData} (hq : H q = none) (h : DpAll K H xs ds) : Dp K (upd H q (.tup xs)) (.ref q) (.tuple ds) :=
  .tup (.inl (.inl upd_same)) (DpAll.mono (Same.new hq) h)
theorem Dp.newL0 {q : Addr} {H : Hp} {xs : List V} {ds : List PyData} (hq : H q = none) (h : DpAll K H xs ds) : Dp K (upd H q (.lst xs)) (.ref q) (.list ds) :=
  .lst (.inl (.inl upd_same)) (DpAll.mono (Same.new hq) h)

/-! ### isinstance of data -/
def tyN : PyData → String
  | .none => "NoneType" | .bool _ => "bool" | .int _ => "int" | .str _ => "str" | .list _ => "list" | .tuple _ => "tuple" | .dict _ => "dict"
theorem Dp.ty {H : Hp} {v : V} {d : PyData} (h : Dp K H v d) : TyX K H v (.type (tyN d)) := by
  cases h with
  | non => exact .base .non
  | bl b => exact .base (.bl b)
  | int i => exact .base (.int i)
  | str x => exact .base (.str x)
  | lst hs _ =>
    rcases hs with (h | ⟨o, h⟩) | ⟨o, its, n, h, hc, _⟩
    · exact .base (.lst h)
    · exact .base (.frz h)
    · exact .kList h hc
  | tup hs _ =>
    rcases hs with (h | ⟨o, h⟩) | ⟨o, its, n, h, hc, _⟩
    · exact .base (.tup h)
    · exact .fTuple h
    · exact .kTuple h hc
def isS : PyData → Bool | .str _ => true | _ => false
def isT : PyData → Bool | .tuple _ => true | _ => false
def isL : PyData → Bool | .list _ => true | _ => false
def isB : PyData → Bool | .bool _ => true | _ => false
def isI : PyData → Bool | .bool _ => true | .int _ => true | _ => false
def isOf : String → PyData → Bool
  | "str", d => isS d
  | "tuple", d => isT d
  | "list", d => isL d
  | "bool", d => isB d
  | "int", d => isI d
  | _, _ => false
def tabN (a T : String) : Bool := a == T || (a == "bool" && T == "int")
theorem kitN : (["NoneType", "bool", "int", "str", "list", "tuple"].all fun a => ["str", "tuple", "list", "bool", "int"].all fun T => kitB a T == some (tabN a T)) = true := by decide +kernel
theorem kit_all {a T : String} (ha : a ∈ ["NoneType", "bool", "int", "str", "list", "tuple"]) (hT : T ∈ ["str", "tuple", "list", "bool", "int"]) : kitB a T = some (tabN a T) := by
  have h := List.all_eq_true.mp (List.all_eq_true.mp kitN a ha) T hT
  exact eq_of_beq h
theorem Dp.nodict {H : Hp} {v : V} {d : PyData} (h : Dp K H v d) : tyN d ≠ "dict" := by cases h <;> (intro e; exact absurd e (by simp [tyN]))
theorem isOf_tab {T : String} (hT : T ∈ ["str", "tuple", "list", "bool", "int"]) (d : PyData) : isOf T d = tabN (tyN d) T := by
  simp only [List.mem_cons, List.not_mem_nil, or_false] at hT
  rcases hT with rfl | rfl | rfl | rfl | rfl <;> cases d <;> first | rfl | decide
theorem isOf_kit {H : Hp} {v : V} {d : PyData} {T : String} (h : Dp K H v d) (hT : T ∈ ["str", "tuple", "list", "bool", "int"]) : kitB (tyN d) T = some (isOf T d) := by
  have n := h.nodict
  rw [isOf_tab hT]
  refine kit_all ?_ hT
  cases d <;> first | exact absurd rfl n | simp [tyN]
end
def rIsD (K : PySem.W.Frag) : List V → Hp → VK → Prop := fun xs H Q => ∃ (v : V) (d : PyData) (T : String), xs = [v, .ty T] ∧ Dp K H v d ∧ T ∈ ["str", "tuple", "list", "bool", "int"] ∧ Q (.bl (isOf T d)) H
section
variable {X : Cx}
theorem call_isD : CallR X (.builtin "isinstance") (rIsD X.K) := by
  intro pins s σ H xs us Q I r h
  obtain ⟨v, d, T, rfl, hd, hT, q⟩ := h
  exact call_isi pins s σ H _ us Q I r ⟨v, .ty T, .type (tyN d), .type T, isOf T d, rfl, .ty T, hd.ty, kit_ty (isOf_kit hd hT), q⟩
/-! ### repr of data -/
def shownB (d : PyData) : Prop := d.showable = true ∧ SeqAt.shaped d = true ∧ d.shown.length ≤ sizeLine
def rReprD (K : PySem.W.Frag) : List V → Hp → VK → Prop := fun xs H Q => ∃ (v : V) (d : PyData), xs = [v] ∧ Dp K H v d ∧ shownB d ∧ Q (.str d.shown) H
theorem call_reprD (hg : X.A.guards = some []) (hu : X.A.units + 70 < cLine) : CallR X (.builtin "repr") (rReprD X.K) := by
  intro pins s σ H xs us Q I r h
  obtain ⟨v, d, rfl, hd, ⟨hs, hsh, hl⟩, q⟩ := h
  obtain ⟨u, rfl, ru⟩ := vals1 r
  have hdep := SeqAt.depth_of_shaped hsh
  have hnd : d.hasDict = false := PyData.hasDict_of_canLay d (SeqAt.canLay_of_shaped hsh)
  obtain ⟨as, rd⟩ := Dp.reads I d v u hd ru
  have big : ∀ a, u = Value.ref a → wpAny (model X.prog X.w) X.A (call (.builtin "repr") [u]) (EP X pins σ Q) X.xe s := fun a e => by
    subst e
    exact repr_of_reads' rd hs (PyData.noDict_hsm hnd) hg (by omega) (fun _ _ e => e) (fun h' t tk k => ⟨.str d.shown, H, I.kept k, ⟨_, rfl⟩, q⟩) hl
  cases hd with
  | non =>
    cases ru
    exact PySem.P.repr_of_none ⟨.str _, H, I.tok _, ⟨_, rfl⟩, by simpa only [PyData.shown] using q⟩
  | bl b =>
    cases ru
    exact PySem.P.repr_of_bool ⟨.str _, H, I.tok _, ⟨_, rfl⟩, by simpa only [PyData.shown] using q⟩
  | int i =>
    obtain ⟨t, rfl⟩ := ru
    exact PySem.P.repr_of_int (by simpa [PyData.showable] using hs) ⟨.str _, H, I.tok _, ⟨_, rfl⟩, by simpa only [PyData.shown] using q⟩
  | str x =>
    obtain ⟨t, rfl⟩ := ru
    exact PySem.P.repr_of_str ⟨.str _, H, I.tok _, ⟨_, rfl⟩, by simpa only [PyData.shown] using q⟩ (by simpa only [PyData.shown] using hl)
  | lst _ _ => exact big _ ru
  | tup _ _ => exact big _ ru
end
/-! ### a comprehension over a text -/
theorem lc_str {z : Str} {g : TG} {tt : TT} {te : TE} {vs : List Nat} {σ : L2.St} {H1 : Hp} {D : Addr} {Qd : Hp → Prop} (Pv : Nat → Hp → Prop) (h0 : Pv 0 (upd H1 D (.lst [])))
    (hs : ∀ i c H, z.cps.toList[i]? = some c → Pv i H → g (.str ⟨#[c]⟩) (wipe σ vs) H fun σ2 H2 => wipe σ2 vs = wipe σ vs ∧ tt σ2 H2 fun b H3 =>
      if b = true then te σ2 H3 fun y H4 => ∃ acc, H4 D = some (.lst acc) ∧ acc.length < sizeLine ∧ Pv (i + 1) (upd H4 D (.lst (acc ++ [y]))) else Pv (i + 1) H3) (hd : ∀ H, Pv z.cps.toList.length H → Qd H) :
    ∃ W : Nat → Nat → Hp → Prop, (∃ m, W 0 m (upd H1 D (.lst []))) ∧ ∀ i m H, W i m H →
      ((Its z).stop i H ∧ Qd H) ∨ ((Its z).go i H ∧ ∃ Nx : Hp → Prop, (∀ H', Nx H' → ∃ m', m' < m ∧ W (i + 1) m' H') ∧ ∀ x H', (Its z).yld i H x H' → g x (wipe σ vs) H' fun σ2 H2 => wipe σ2 vs = wipe σ vs ∧ tt σ2 H2 fun b H3 =>
        if b = true then te σ2 H3 fun y H4 => ∃ acc, H4 D = some (.lst acc) ∧ acc.length < sizeLine ∧ Nx (upd H4 D (.lst (acc ++ [y]))) else Nx H3) := by
  have hz : z.cps.toList.length = z.cps.size := Array.length_toList
  refine ⟨fun i m H => m = z.cps.size - i ∧ i ≤ z.cps.size ∧ Pv i H, ⟨z.cps.size, by simp, Nat.zero_le _, h0⟩, ?_⟩
  rintro i m H ⟨rfl, hi, p⟩
  by_cases hlt : i < z.cps.size
  · refine .inr ⟨hlt, Pv (i + 1), fun H' p' => ⟨z.cps.size - (i + 1), by omega, rfl, hlt, p'⟩, fun x H' y => ?_⟩
    obtain ⟨e, c, hc, rfl⟩ := y
    subst e
    exact hs i c _ (by rw [Array.getElem?_toList]; exact hc) p
  · have e : i = z.cps.size := by omega
    subst e
    exact .inl ⟨Nat.le_refl _, hd H (by rw [hz]; exact p)⟩

/-! ### the pot: two numbers -/
structure Pot (H : Hp) (p : Addr) (x y : Int) : Prop where
  at_ : H p = some (.lst [.int x, .int y])
  x0 : 0 ≤ x
  y0 : 0 ≤ y
  y1 : y < 1099511627776
theorem Pot.ne {H : Hp} {p q : Addr} {x y : Int} (h : Pot H p x y) (hq : H q = none) : q ≠ p := fun e => by
  subst e
  rw [h.at_] at hq
  cases hq
theorem Pot.same {H H' : Hp} {p : Addr} {x y : Int} (h : Pot H p x y) (e : Same H H') : Pot H' p x y := ⟨e _ _ h.at_, h.x0, h.y0, h.y1⟩
theorem Pot.new {H : Hp} {p q : Addr} {x y : Int} {o : HO} (h : Pot H p x y) (hq : H q = none) : Pot (upd H q o) p x y := h.same (Same.new hq)
theorem hin_of {A : Around} {k : Nat} (hr : Room k A) : A.units + 65 < cLine := by have := hr.un; omega
theorem hrep_of {A : Around} {k : Nat} (hr : Room k A) : A.units + 70 < cLine := by have := hr.un; omega
end L2
set_option Elab.async false
set_option linter.all false
set_option maxRecDepth 100000
set_option maxHeartbeats 4000000
namespace L2
open PySem PySem.Spec PyProof.Rows
/-! a def whose promise is asked only where no repr is under way -/
structure FnG (P : Program) (w : World) (K : PySem.W.Frag) (mg : Str → Option Value) (base : Heap) (CX : CXT) (k : Nat) (f : Addr) (fd : FuncData) (ps : List Str) (sp : Sp) : Prop where
  run : ∀ (A : Around) (outer : List Env) (s : Shared) (H : Hp) (args : Args) (us : List Value) (vs : List V) (Q : VK) (E : XK), A.guards = some [] → Room k A → Env0 P w K mg base A outer s H →
    BindsTo s fd args (ps.zip us) → Vals vs us → sp vs H Q E → codeAny (model P w) A (.call (.ref f) args) (CR CX outer P w H s Q E) s
section
variable {P : Program} {w : World} {K : PySem.W.Frag} {mg : Str → Option Value} {base : Heap} {CX : CXT} {k : Nat}
theorem fnG_of {f : Addr} {nm ql : Str} {pa : Arguments} {bd : List Stmt} {sc : Scope} {dV kV dc pm cdv ct oc : Value} {an od : Option Addr} {osl : Array (Option Value)} {N ps : List Str} {sp : Sp}
    (lk : K.lookup f = some ⟨oc, od, .func (PySem.W.fnOf nm ql pa bd sc dV kV dc pm an cdv ct), osl⟩) (hcd : PySem.W.codeIn K cdv ql = true) (S : FnScope N ps sc)
    (ln : ∀ vs H Q E, sp vs H Q E → vs.length = ps.length)
    (hb : ∀ (A : Around) (outer : List Env) (s : Shared) (H : Hp) (vs : List V) (Q : VK) (E : XK), (A.deeper (envOfC ql sc s.heap.objs.size f cdv)).guards = some [] → Room k (A.deeper (envOfC ql sc s.heap.objs.size f cdv)) → sp vs H Q E →
      ∃ t, PSs (cxOf CX P w K mg base N ql sc f cdv A outer s H E) bd t ∧ t { nx := fun _ H' => Q .non H', rt := Q } (start N vs) H) :
    FnG P w K mg base CX (k + 1) f (PySem.W.fnOf nm ql pa bd sc dV kV dc pm an cdv ct) ps sp := by
  constructor
  intro A outer s H args us vs Q E hg hr e0 hbd rv hsp
  have hln := ln _ _ _ _ hsp
  have inK : K.In s.heap := e0.mod.kin.keeps (fun b o e => (e0.bs b o e).1)
  have noL : s.heap.NoLimit := e0.mod.nolimit.keeps (fun b o e => (e0.bs b o e).1)
  have hkd : ∀ y ∈ ps.zip us, sc.names.lookup y.1 = some .local ∨ (sc.names.lookup y.1 = some .cell ∧ ((cellsFrom (s.heap.objs.size + 1) sc.names []).lookup y.1).isSome = true) := by
    rintro ⟨n, v⟩ hy
    rcases S.par n (List.of_mem_zip hy).1 with z | z
    · exact Or.inl z
    · exact Or.inr ⟨z, PySem.W.cellsFrom_some _ _ _ (Or.inl z)⟩
  refine codeAny_call_function hr.depth (inK _ _ lk) rfl S.co S.gen rfl
    (PySem.W.codeRec_of inK hcd) (hbd _ _ _ _ ?_)
  refine wpAny_newFunctionEnv_cells S.kind hkd
    (fun env he s1 x => ?_)
  subst he
  refine ⟨noL.keeps x.toInCall.keep, codeAny_func ?_⟩
  obtain ⟨t, ht, hq⟩ := hb A outer s H vs Q E hg (hr.deeper _) hsp
  have I0 := inv_start (CX := CX) (E := E) S hr.hd e0 hln rv x
  refine wpAny_mono (ht.run [] s1 (start N vs) H _ I0 hq)
    (fun fl s' hs => ?_) (fun e s' hs => hs)
  have done : ∀ {σ' : St} {H' : Hp} {v : V} {u : Value}, Inv (cxOf CX P w K mg base N ql sc f cdv A outer s H E) [] σ' H' s' → RelV v u → Q v H' → CE outer P w H s Q u s' := by
    intro σ' H' v u J r q
    exact ⟨v, H', J.os, J.bare, J.base, J.hok, r, q⟩
  cases fl with
  | ret u =>
    obtain ⟨v, σ', H', J, r, q⟩ := hs
    exact done J r q
  | next =>
    obtain ⟨σ', H', J, q⟩ := hs
    exact done (v := .non) (u := .none) J rfl q
  | brk => exact (hs.elim fun _ ⟨_, _, q⟩ => q.elim)
  | cont => exact (hs.elim fun _ ⟨_, _, q⟩ => q.elim)
/-- by its place in the text, as C8's -/
theorem fnG0 {x : Str} {st : Stmt} {f : Addr} {fd : FuncData} {N ps : List Str} {sp : Sp} (D : C8.Def K mg x st f fd) (S : FnScope N ps (C8.fnScope st)) (ln : ∀ vs H Q E, sp vs H Q E → vs.length = ps.length)
    (hb : ∀ (cdv : Value) (A : Around) (outer : List Env) (s : Shared) (H : Hp) (vs : List V) (Q : VK) (E : XK), (A.deeper (envOfC x (C8.fnScope st) s.heap.objs.size f cdv)).guards = some [] → Room k (A.deeper (envOfC x (C8.fnScope st) s.heap.objs.size f cdv)) → sp vs H Q E →
      ∃ t, PSs (cxOf C8.CX0 P w K mg base N x (C8.fnScope st) f cdv A outer s H E).nox (C8.fnBody st) t ∧ t { nx := fun _ H' => Q .non H', rt := Q } (start N vs) H) : FnG P w K mg base C8.CX0 (k + 1) f fd ps sp := by
  obtain ⟨oc, od, dV, kV, doc, pm, an, cdv, ct, osl, rfl, lk, hcd⟩ := D.fn.ex
  refine fnG_of lk hcd S ln (fun A outer s H vs Q E hg hr hsp => ?_)
  obtain ⟨t, h, q⟩ := hb cdv A outer s H vs Q E hg hr hsp
  exact ⟨t, h.nox, q⟩
end
/-- the law's call, from such a promise -/
theorem lawG {P : Program} {w : World} {K : PySem.W.Frag} {mg mb : Str → Option Value} {CX : CXT} {k : Nat} {fa a : Addr} {fd : FuncData} {x : Str} {sp : Sp} {s₁ : Shared} {vs : List Value} {ns : List Int}
    (KX : K.In s₁.heap) (hns : s₁.heap.Ns mainGlobals mg) (hb : s₁.heap.Ns builtinsNs mb) (hbb : ∀ x : Str, x ≠ "__name__" → mb x = bootBuiltins x) (hlim : s₁.heap.NoLimit) (hg : s₁.gens = #[])
    (ha : s₁.heap.get? a = some { cls := .type "list", data := .seq vs.toArray }) (hi : IntsAre vs ns) (hl : ns.length ≤ sizeLine) (hr : Room k callerA)
    (F : ∀ base : Heap, K.In base → base.Ns mainGlobals mg → FnG P w K mg base CX k fa fd [x] sp)
    (hbind : ∀ (s : Shared) (u : Value), BindsTo s fd ⟨[u], []⟩ [(x, u)])
    (hsp : ∀ H : Hp, Only H → SqL K H a (ns.map V.int) → sp [.ref a] H (fun v _ => v = .bl true) fun _ _ _ => False)
    (hCX : ∀ H e s', CX [] H s₁ (fun _ _ _ => False) e s' → False) :
    codeAny (model P w) callerA (.call (.ref fa) ⟨[.ref a], []⟩) (fun r s' => r = .ok (.ret (.bool true)) ∧ OldK s₁.heap s'.heap ∧ s'.os = s₁.os ∧ AllBare s'.gens) s₁ := by
  have vi := vals_ints hi
  have hvl := hi.length
  have main : ∀ H : Hp, Only H → SqL K H a (ns.map V.int) → HOk P w H s₁.heap → (∀ b, H b ≠ none → b = a) → (H a ≠ none → K.lookup a = none) →
      codeAny (model P w) callerA (.call (.ref fa) ⟨[.ref a], []⟩) (fun r s' => r = .ok (.ret (.bool true)) ∧ OldK s₁.heap s'.heap ∧ s'.os = s₁.os ∧ AllBare s'.gens) s₁ := by
    intro H only hS hok onlyA noK
    have free : ∀ {b : Addr} {o : Obj} {es : Array DictEntry} {ep : Nat}, s₁.heap.get? b = some o → o.data = .dict es ep → H b = none := by
      intro b o es ep e d
      cases q : H b with
      | none => rfl
      | some u =>
        have hba : b = a := onlyA b (by rw [q]; simp)
        subst hba
        rw [ha] at e
        cases e
        exact nomatch (show Data.seq vs.toArray _ = Data.dict es ep from d)
    have nsAt : ∀ {b : Addr} {m : Str → Option Value}, s₁.heap.Ns b m → (hidT s₁.heap H).Ns b m := by
      rintro b m ⟨o, es, ep, e, d, r⟩
      exact ⟨o, es, ep, hidT_get e (free e d), d, r⟩
    have inB : K.In (hidT s₁.heap H) := by
      intro b o e
      refine hidT_get (KX b o e) ?_
      cases q : H b with
      | none => rfl
      | some u =>
        have hba : b = a := onlyA b (by rw [q]; simp)
        subst hba
        rw [noK (by rw [q]; simp)] at e
        cases e
    have md : Mod K mg (hidT s₁.heap H) := by
      obtain ⟨mc, h1, h2⟩ := hlim
      exact ⟨inB, nsAt hns, ⟨mb, nsAt hb, hbb⟩, ⟨mc, nsAt h1, h2⟩⟩
    have e0 : Env0 P w K mg (hidT s₁.heap H) callerA [] s₁ H := by
      refine ⟨rfl, md, fun b o e => of_hidT e, Nat.le_of_eq (hidT_size _ _), trivial, ?_, hok, .of_eq hg⟩
      intro b hb
      exact absurd (show b ∈ ([] : List Addr) from hb) (by simp)
    have hrun := (F _ inB (nsAt hns)).run callerA [] s₁ H ⟨[.ref a], []⟩ [.ref a] [.ref a] _ _ rfl hr e0
      (hbind s₁ (.ref a)) (.cons rfl .nil) (hsp H only hS)
    refine codeAny_mono hrun (fun r s' h => ?_)
    cases r with
    | error e => exact (hCX H e s' h).elim
    | ok fl =>
      cases fl with
      | ret u =>
        obtain ⟨v, H', os, bare, un, hok', r', q⟩ := h
        have qv : v = .bl true := q
        subst qv
        have ru : u = Value.bool true := r'
        subst ru
        refine ⟨rfl, OldK.of_keep ?_, os, bare⟩
        intro b o e
        cases q : H b with
        | none => exact un.keep b o e q (fun z => absurd (show b ∈ ([] : List Addr) from z) (by simp)) (by simp)
        | some u =>
          rcases only b with z | ⟨ob, ys, z⟩
          · rw [q] at z
            cases z
          · obtain ⟨e1, _⟩ := hok b _ z
            obtain ⟨e2, _⟩ := hok' b _ (un.frzs b ob _ z)
            rw [e] at e1
            cases e1
            exact e2
      | next => exact False.elim h
      | brk => exact False.elim h
      | cont => exact False.elim h
  cases hk : K.lookup a with
  | some o =>
    have e := KX a o hk
    rw [ha] at e
    cases e
    refine main (fun _ => none) (fun _ => Or.inl rfl) (Or.inr ⟨_, vs.toArray, _, hk, rfl, rfl, rfl, ?_, ?_⟩) ?_ (fun b z => absurd rfl z) (fun z => absurd rfl z)
    · rw [List.size_toArray, hvl]
      exact hl
    · simpa using vi
    · intro b u z
      exact nomatch (show (none : Option HO) = some u from z)
  | none =>
    refine main (fun b => if b = a then some (.frz { cls := .type "list", data := .seq vs.toArray } (.lst (ns.map V.int))) else none) (fun b => ?_) (Or.inl (Or.inr ⟨_, if_pos rfl⟩)) (fun b u z => ?_) (fun b z => ?_) (fun _ => hk)
    · by_cases hba : b = a
      · exact Or.inr ⟨_, _, if_pos hba⟩
      · exact Or.inl (if_neg hba)
    · by_cases hba : b = a
      · have zz := (if_pos hba).symm.trans z
        cases zz
        subst hba
        exact ⟨ha, by rw [List.length_map]; exact hl, vs, _, vi, ha⟩
      · have zz := (if_neg hba).symm.trans z
        cases zz
    · by_cases hba : b = a
      · exact hba
      · exact absurd (if_neg hba) z
/-- the goal that the head leaves, from such a promise of the law's def -/
theorem walkG {l : PySem.W.OpenLaw} {n k : Nat} {q : Program} {loose : List Str} {XP : (Str → Option Value) → Heap → Prop} {YP : World → Heap → Prop} {d : DefRec} {K : Params → PySem.W.Frag} {sp : PySem.W.Frag → Sp} {x : Str}
    (hn : l.most = some n) (hn2 : n ≤ sizeLine) (hdf : d.params.defaults = []) (hr : Room k callerA) (hY : ∀ (w : World) (h : Heap), YP w h → (K w.params).In h)
    (F : ∀ (w : World) (mg : Str → Option Value) (fa : Addr) (h : Heap), (K w.params).In h → h.Ns mainGlobals mg → mg d.name = some (.ref fa) →
      ∃ fd : FuncData, (∀ (s : Shared) (u : Value), BindsTo s fd ⟨[u], []⟩ [(x, u)]) ∧ ∀ base : Heap, (K w.params).In base → base.Ns mainGlobals mg → FnG l.prog w (K w.params) mg base C8.CX0 k fa fd [x] (sp (K w.params)))
    (hsp : ∀ (K : PySem.W.Frag) (H : Hp) (a : Addr) (ns : List Int), ns.length ≤ n → Only H → SqL K H a (ns.map V.int) → sp K [.ref a] H (fun v _ => v = .bl true) fun _ _ _ => False) :
    PySem.W.WalkO q loose XP YP l.row.toRowW d [] (fun f vs => PySem.call f vs) := by
  refine Att.attach_call hn hdf ?_
  intro w s₀ s₁ mg mb fa o pm cd doc a vs ns G Y ho hd hcd hmg hobj hints hlen hg
  have inK := hY w _ Y
  obtain ⟨fd, hb, hF⟩ := F w mg fa _ inK G.T.g hmg
  exact lawG inK G.T.g G.T.b G.T.builtins G.T.nolimit hg hobj hints (Nat.le_trans hlen hn2) hr hF hb (fun H hO hS => hsp _ H a ns hlen hO hS) (fun H e s' z => z)
end L2
set_option Elab.async false
set_option linter.all false
set_option maxRecDepth 100000
set_option maxHeartbeats 4000000
namespace K11
open PySem PySem.Spec PyProof.Rows L2
open C8 (Cal Def cal0 pe_c fnBody fnScope fnArgs)

def topS (i : Nat) : Stmt := PySem.Challenge.pw_changewhile_k11_kinds_told.main.body.getD i (.Pass ⟨0, 0, 0, 0⟩)
/-- what the module's names hold that are no defs -/
structure Tp (mg : Str → Option Value) : Prop where
  n_isinstance : mg "isinstance" = none
  n_str : mg "str" = none
  n_tuple : mg "tuple" = none
  n_list : mg "list" = none
  n_bool : mg "bool" = none
  n_len : mg "len" = none
  n_range : mg "range" = none
  n_max : mg "max" = none
  n_min : mg "min" = none
  n_repr : mg "repr" = none
  g_LONGEST_NAME : ∃ u, mg "LONGEST_NAME" = some u ∧ RelV (.int 8) u

/-! ### arithmetic -/
theorem fmod_lo {a n : Int} (h : 0 < n) : 0 ≤ a.fmod n := by
  rw [Int.fmod_eq_emod_of_nonneg a (by omega)]
  exact Int.emod_nonneg a (by omega)
theorem fmod_hi {a n : Int} (h : 0 < n) : a.fmod n < n := by
  rw [Int.fmod_eq_emod_of_nonneg a (by omega)]
  exact Int.emod_lt_of_pos a h
theorem div_lo {a n : Int} (h : 0 < n) (ha : 0 ≤ a) : 0 ≤ a / n := Int.ediv_nonneg ha (by omega)
theorem pot_of {H : Hp} {p : Addr} {x y : Int} (hx : 0 ≤ x) (hy : 0 ≤ y) (h : y < 1099511627776) : Pot (upd H p (.lst [.int x, .int y])) p x y := ⟨upd_same, hx, hy, h⟩

section
variable {P : Program} {w : World} {K : PySem.W.Frag} {mg : Str → Option Value} {base : Heap}
/-! ### the drawing -/
abbrev sLTake : Stmt := topS 10
abbrev NLTake : List Str := ["_law_pot_here", "_law_many", "_law_digit"]
theorem scLTake : FnScope NLTake ["_law_pot_here", "_law_many"] (fnScope sLTake) := ⟨rfl, rfl, rfl, by decide +kernel, rfl, by decide +kernel, by decide +kernel⟩
def spTake : Sp := fun vs H Q _ => ∃ (p : Addr) (x y n : Int), vs = [.ref p, .int n] ∧ Pot H p x y ∧ 0 < n ∧ n.natAbs < 2 ^ 300 ∧
  ∀ r x' y', 0 ≤ r → r < n → Pot (upd H p (.lst [.int x', .int y'])) p x' y' → Q (.int r) (upd H p (.lst [.int x', .int y']))
theorem c_take {f : Addr} {fd : FuncData} (D : Def K mg "_law_take" sLTake f fd) (b : Binds K fd ["_law_pot_here", "_law_many"] []) : Cal P w K mg base 1 "_law_take" spTake [] := by
  refine cal0 D b .nil scLTake (fun vs H Q E h => ?_) (fun cdv A outer s H vs Q E hr h => ?_)
  · obtain ⟨p, x, y, n, rfl, _⟩ := h
    rfl
  · obtain ⟨p, x, y, n, rfl, hp, n0, n1, q⟩ := h
    have nd := scLTake.nd
    refine ⟨_, (pss_cons (ps_if (pt_cmpR op_gt (pe_ix ix_list (pv 0) pe_int (fun _ _ => rfl)) pe_int (nomark _))
      (pss_cons (ps_set (i := 2) nd rfl (.inl rfl) (pe_op op_modN (pe_ix ix_list (pv 0) pe_int (fun _ _ => rfl)) (pv 1)))
      (pss_cons (ps_asg (pe_op op_fdivW (pe_ix ix_list (pv 0) pe_int (fun _ _ => rfl)) (pv 1)) (pg_sub (pv 0) pe_int set_list))
      (pss_one (ps_ret (pv 2)))))
      pss_nil)
    (pss_cons (ps_asg (pe_op op_modN (pe_op op_add (pe_op op_mul (pe_ix ix_list (pv 0) pe_int (fun _ _ => rfl)) pe_int) pe_int) pe_int) (pg_sub (pv 0) pe_int set_list))
    (pss_one (ps_ret (pe_op op_modN (pe_op op_fdivW (pe_op op_modN (pe_op op_mul (pe_ix ix_list (pv 0) pe_int (fun _ _ => rfl)) (pe_ix ix_list (pv 0) pe_int (fun _ _ => rfl))) pe_int) pe_int) (pv 1)))))), ?_⟩
    have h0 := hp.x0
    have h1 := hp.y0
    have h2 := hp.y1
    have hl := hp.at_
    refine ⟨_, rfl, _, _, _, _, rfl, rfl, SqL.of hl, atI_nat (j := 0) rfl, _, _, rfl, rfl, _, rfl, ite2 (fun e => ?_) (fun e => ?_)⟩
    · refine ⟨_, rfl, _, _, _, _, rfl, rfl, SqL.of hl, atI_nat (j := 0) rfl, _, rfl, _, _, rfl, rfl, (show n ≠ 0 by omega), ?_⟩
      refine ⟨_, rfl, _, _, _, _, rfl, rfl, SqL.of hl, atI_nat (j := 0) rfl, _, rfl, _, _, rfl, rfl, wide_div n0 n1 (by decide) (by decide), ?_⟩
      refine ⟨_, rfl, _, _, _, _, rfl, rfl, hl, rfl, ?_⟩
      refine ⟨_, rfl, ?_⟩
      exact q _ _ _ (fmod_lo n0) (fmod_hi n0) (pot_of (div_lo n0 h0) h1 h2)
    · refine ⟨_, rfl, _, _, _, _, rfl, rfl, SqL.of hl, atI_nat (j := 1) rfl, _, _, rfl, rfl, .inl ⟨by omega, by omega⟩, _, _, rfl, rfl, _, _, rfl, rfl, (by show (2147483629 : Int) ≠ 0; decide), ?_⟩
      refine ⟨_, rfl, _, _, _, _, rfl, rfl, hl, rfl, ?_⟩
      have b0 : 0 ≤ (y * 39373 + 7919).fmod 2147483629 := fmod_lo (by decide)
      have b1 : (y * 39373 + 7919).fmod 2147483629 < 2147483629 := fmod_hi (by decide)
      refine ⟨_, rfl, _, _, _, _, rfl, rfl, SqL.of upd_same, atI_nat (j := 1) rfl, _, rfl, _, _, _, _, rfl, rfl, SqL.of upd_same, atI_nat (j := 1) rfl, _, _, rfl, rfl, .inl ⟨by omega, by omega⟩, _, _, rfl, rfl, (by show (2147483563 : Int) ≠ 0; decide), _, _, rfl, rfl, wide_div (b := 64) (by decide) (by decide) (by decide) (by decide), _, rfl, _, _, rfl, rfl, (show n ≠ 0 by omega), ?_⟩
      exact q _ _ _ (fmod_lo n0) (fmod_hi n0) (pot_of h0 b0 (by omega))

/-! ### a cell, the pot -/
abbrev sLCellAt : Stmt := topS 8
abbrev NLCellAt : List Str := ["_law_script", "_law_k"]
theorem scLCellAt : FnScope NLCellAt ["_law_script", "_law_k"] (fnScope sLCellAt) := ⟨rfl, rfl, rfl, by decide +kernel, rfl, by decide +kernel, by decide +kernel⟩
def spCellAt (K : PySem.W.Frag) : Sp := fun vs H Q _ => ∃ (a : Addr) (ns : List Int) (k : Nat), vs = [.ref a, .int k] ∧ SqL K H a (ns.map V.int) ∧ ∀ n, Q (.int n) H
theorem c_cellAt (T : Tp mg) {f : Addr} {fd : FuncData} (D : Def K mg "_law_cell_at" sLCellAt f fd) (b : Binds K fd ["_law_script", "_law_k"] []) : Cal P w K mg base 1 "_law_cell_at" (spCellAt K) [] := by
  refine cal0 D b .nil scLCellAt (fun vs H Q E h => ?_) (fun cdv A outer s H vs Q E hr h => ?_)
  · obtain ⟨a, ns, k, rfl, _⟩ := h
    rfl
  · obtain ⟨a, ns, k, rfl, hs, q⟩ := h
    refine ⟨_, (pss_one (ps_ret (pe_ifExp (pt_cmpR op_lt (pv 1) (pe_callB call_len_seq (by rfl) T.n_len (by decide +kernel) (pa_cons (pv 0) pa_nil)) (nomark _)) (pe_ix ix_list (pv 0) (pv 1) (fun _ _ => rfl)) pe_int))), ?_⟩
    refine ⟨_, rfl, _, rfl, _, _, rfl, .inl hs, _, _, rfl, rfl, _, rfl, ite2 (fun e => ?_) (fun e => ?_)⟩
    · have e1 : (k : Int) < ((ns.map V.int).length : Int) := of_decide_eq_true e
      have e2 : k < ns.length := by
        rw [List.length_map] at e1
        omega
      refine ⟨_, rfl, _, rfl, _, _, _, .int ns[k], rfl, rfl, hs, atI_nat (j := k) ?_, q _⟩
      rw [List.getElem?_map, List.getElem?_eq_getElem e2]
      rfl
    · exact q _
abbrev sLPot : Stmt := topS 9
abbrev NLPot : List Str := ["_law_cell", "_law_k"]
theorem scLPot : FnScope NLPot ["_law_cell", "_law_k"] (fnScope sLPot) := ⟨rfl, rfl, rfl, by decide +kernel, rfl, by decide +kernel, by decide +kernel⟩
def spPot : Sp := fun vs H Q _ => ∃ (c : Int) (k : Nat), vs = [.int c, .int k] ∧ k ≤ 100 ∧ ∀ p x y, H p = none → Pot (upd H p (.lst [.int x, .int y])) p x y → Q (.ref p) (upd H p (.lst [.int x, .int y]))
theorem c_pot {f : Addr} {fd : FuncData} (D : Def K mg "_law_pot" sLPot f fd) (b : Binds K fd ["_law_cell", "_law_k"] []) : Cal P w K mg base 1 "_law_pot" spPot [] := by
  refine cal0 D b .nil scLPot (fun vs H Q E h => ?_) (fun cdv A outer s H vs Q E hr h => ?_)
  · obtain ⟨c, k, rfl, _⟩ := h
    rfl
  · obtain ⟨c, k, rfl, hk, q⟩ := h
    refine ⟨_, (pss_cons (ps_if (pt_cmpR op_ge (pv 0) (pe_op op_pow pe_int pe_int) (nomark _))
      (pss_one (ps_ret (pe_lst (pa_cons (pv 0) (pa_cons (pe_op op_add pe_int (pv 1)) pa_nil)))))
      pss_nil)
    (pss_one (ps_ret (pe_lst (pa_cons pe_int (pa_cons (pe_op op_modN (pe_op op_add (pe_op op_add (pe_op op_add (pe_op op_mul (pv 0) pe_int) (pe_op op_mul (pe_op op_mul pe_int (pv 1)) (pv 1))) (pe_op op_mul pe_int (pv 1))) pe_int) pe_int) pa_nil)))))), ?_⟩
    refine ⟨_, rfl, _, _, rfl, rfl, (by show (0 : Int) ≤ 18 ∧ _; decide), _, _, rfl, rfl, _, rfl, ite2 (fun e => ?_) (fun e => ?_)⟩
    · have e1 : ((10 : Int) ^ (18 : Int).toNat) ≤ c := of_decide_eq_true e
      have e2 : (10 : Int) ^ (18 : Int).toNat = 1000000000000000000 := by decide
      refine ⟨_, rfl, _, rfl, _, _, rfl, rfl, (by show 2 ≤ sizeLine; decide), fun p hp => ?_⟩
      exact q p _ _ hp (pot_of (by omega) (by omega) (by omega))
    · refine ⟨_, rfl, _, _, rfl, rfl, .inr ⟨by decide, by decide⟩, _, rfl, _, _, rfl, rfl, .inl ⟨by decide, by decide⟩, _, rfl, _, _, rfl, rfl, .inr ⟨by omega, by omega⟩, _, _, rfl, rfl, _, rfl, _, _, rfl, rfl, .inl ⟨by decide, by decide⟩, _, _, rfl, rfl, _, _, rfl, rfl, _, _, rfl, rfl, (by show (2147483647 : Int) ≠ 0; decide), (by show 2 ≤ sizeLine; decide), fun p hp => ?_⟩
      exact q p _ _ hp (pot_of (by omega) (fmod_lo (by decide)) (Int.lt_trans (fmod_hi (by decide)) (by decide)))

/-! ### names -/
def low (c : Nat) : Bool := decide (97 ≤ c) && decide (c ≤ 122)
def keptS (z : Str) : Bool := inV (.str z) [.str "number", .str "truth", .str "yes", .str "no"]
def nameS (z : Str) : Bool := (decide (1 ≤ z.length) && decide (z.length ≤ 8)) && (z.cps.toList.all low && !keptS z)
theorem len_tl (z : Str) : z.cps.toList.length = z.length := Array.length_toList
theorem tl_app (x y : Str) : (x ++ y).cps.toList = x.cps.toList ++ y.cps.toList := TL.tl_append x y
theorem abc_low : ∀ (j : Nat) (c : Nat), ("abcdefghijklmnopqrstuvwxyz" : Str).cps.toList[j]? = some c → low c = true := by
  have h : ("abcdefghijklmnopqrstuvwxyz" : Str).cps.toList.all low = true := by decide +kernel
  intro j c e
  exact List.all_eq_true.mp h c (List.mem_of_getElem? e)
def sevenN : List Str := ["a", "ab", "add", "empty", "list", "r", "x"]
theorem seven_ok : sevenN.all nameS = true := by decide +kernel
theorem kept_four {z : Str} (e : keptS z = true) : z = "number" ∨ z = "truth" ∨ z = "yes" ∨ z = "no" := by
  have h : (("number" : Str) == z || (("truth" : Str) == z || (("yes" : Str) == z || (("no" : Str) == z || false)))) = true := e
  simp only [Bool.or_eq_true, beq_iff_eq, Bool.false_eq_true, or_false] at h
  rcases h with h | h | h | h
  · exact .inl h.symm
  · exact .inr (.inl h.symm)
  · exact .inr (.inr (.inl h.symm))
  · exact .inr (.inr (.inr h.symm))
theorem kept_cut (z : Str) (e : keptS z = true) : (PySem.Txt.slice z none (some 7)).length ≤ 8 := by
  rcases kept_four e with rfl | rfl | rfl | rfl <;> decide +kernel
theorem kept_x (z : Str) (e : keptS z = true) : nameS (("x" : Str) ++ PySem.Txt.slice z none (some 7)) = true := by
  rcases kept_four e with rfl | rfl | rfl | rfl <;> decide +kernel
abbrev sLCalled : Stmt := topS 11
abbrev NLCalled : List Str := ["_law_pot_here", "_law_found", "_law_k"]
theorem scLCalled : FnScope NLCalled ["_law_pot_here"] (fnScope sLCalled) := ⟨rfl, rfl, rfl, by decide +kernel, rfl, by decide +kernel, by decide +kernel⟩
/-- all but the pot stays, and the pot stays one -/
def Going (p : Addr) (H H' : Hp) : Prop := But p H H' ∧ ∃ x y, Pot H' p x y
theorem going_pot {p : Addr} {H H' : Hp} {x' y' : Int} (g : But p H H') (h : Pot (upd H' p (.lst [.int x', .int y'])) p x' y') : Going p H (upd H' p (.lst [.int x', .int y'])) := ⟨g.pot, _, _, h⟩
theorem Going.trans {p : Addr} {H H1 H2 : Hp} (a : Going p H H1) (b : Going p H1 H2) : Going p H H2 := ⟨a.1.trans b.1, b.2⟩
theorem Going.new {p q : Addr} {H H1 : Hp} {o : HO} (a : Going p H H1) (hq : H1 q = none) : Going p H (upd H1 q o) := ⟨a.1.trans (But.new hq), let ⟨x, y, h⟩ := a.2; ⟨x, y, h.new hq⟩⟩
theorem Going.same {p : Addr} {H H1 H2 : Hp} (a : Going p H H1) (e : Same H1 H2) : Going p H H2 := ⟨a.1.trans (But.same e), let ⟨x, y, h⟩ := a.2; ⟨x, y, h.same e⟩⟩
theorem Going.ne {p q : Addr} {H H1 : Hp} (a : Going p H H1) (hq : H1 q = none) : q ≠ p := let ⟨_, _, h⟩ := a.2; h.ne hq
def spCalled : Sp := fun vs H Q _ => ∃ (p : Addr) (x y : Int), vs = [.ref p] ∧ Pot H p x y ∧ ∀ z H', nameS z = true → Going p H H' → Q (.str z) H'
theorem c_called (T : Tp mg) (c_LTake : Cal P w K mg base 1 "_law_take" spTake []) {f : Addr} {fd : FuncData} (D : Def K mg "_law_called" sLCalled f fd) (b : Binds K fd ["_law_pot_here"] []) : Cal P w K mg base 2 "_law_called" spCalled [] := by
  refine cal0 D b .nil scLCalled (fun vs H Q E h => ?_) (fun cdv A outer s H vs Q E hr h => ?_)
  · obtain ⟨p, x, y, rfl, _⟩ := h
    rfl
  · obtain ⟨p, x, y, rfl, hp, q⟩ := h
    have nd := scLCalled.nd
    refine ⟨_, (pss_cons (ps_if (pt_cmpR op_gt (pe_c c_LTake hr (by decide) (by rfl) (pa_cons (pv 0) (pa_cons pe_int pa_nil))) pe_int (nomark _))
      (pss_one (ps_ret (pe_ix ix_list (pe_lst (pa_cons pe_str (pa_cons pe_str (pa_cons pe_str (pa_cons pe_str (pa_cons pe_str (pa_cons pe_str (pa_cons pe_str pa_nil)))))))) (pe_c c_LTake hr (by decide) (by rfl) (pa_cons (pv 0) (pa_cons pe_int pa_nil))) (fun _ _ => rfl))))
      pss_nil)
    (pss_cons (ps_set (i := 1) nd rfl (.inl rfl) pe_str)
    (pss_cons (ps_for PassesOwn.never rfl (pi_range1 (by rfl) T.n_range (pa_cons (pe_op op_add pe_int (pe_c c_LTake hr (by decide) (by rfl) (pa_cons (pv 0) (pa_cons pe_int pa_nil)))) pa_nil)) (pg_name (i := 2) nd rfl (.inl rfl))
      (pss_one (ps_set (i := 1) nd rfl (.inl rfl) (pe_op op_add_str (pv 1) (pe_ix ix_str pe_str (pe_c c_LTake hr (by decide) (by rfl) (pa_cons (pv 0) (pa_cons pe_int pa_nil))) (fun _ _ => rfl))))))
    (pss_cons (ps_if (pt_cmpR op_in_seq (pv 1) (pe_lst (pa_cons pe_str (pa_cons pe_str (pa_cons pe_str (pa_cons pe_str pa_nil))))) (by rfl))
      (pss_one (ps_ret (pe_op op_add_str pe_str (pe_slice C8.sl_txt (pv 1) po_none (po_some pe_int)))))
      pss_nil)
    (pss_one (ps_ret (pv 1))))))), ?_⟩
    refine ⟨_, rfl, p, x, y, 3, rfl, hp, by decide, by decide, fun r x1 y1 r0 r1 hp1 => ?_⟩
    have g1 : Going p H (upd H p (.lst [.int x1, .int y1])) := going_pot (But.refl p H) hp1
    refine ⟨_, _, rfl, rfl, _, rfl, ite2 (fun e => ?_) (fun e => ?_)⟩
    · refine ⟨(by show 7 ≤ sizeLine; decide), fun l hl => ?_⟩
      have nl := hp1.ne hl
      refine ⟨_, rfl, p, x1, y1, 7, rfl, hp1.new hl, by decide, by decide, fun r2 x2 y2 r20 r21 hp2 => ?_⟩
      have hr2 : r2.toNat < 7 := by omega
      obtain ⟨z, hz⟩ : ∃ z, sevenN[r2.toNat]? = some z := ⟨_, List.getElem?_eq_getElem (show r2.toNat < sevenN.length from hr2)⟩
      refine ⟨l, sevenN.map V.str, r2, .str z, rfl, rfl, SqL.of (by rw [upd_ne nl, upd_same]; rfl), ?_, ?_⟩
      · have e2 : r2 = (r2.toNat : Int) := by omega
        rw [e2]
        refine atI_nat ?_
        rw [List.getElem?_map, hz]
        rfl
      · exact q z _ (List.all_eq_true.mp seven_ok z (List.mem_of_getElem? hz)) (going_pot (g1.1.trans (But.new hl)) hp2)
    · refine ⟨_, rfl, p, x1, y1, 8, rfl, hp1, by decide, by decide, fun r2 x2 y2 r20 r21 hp2 => ?_⟩
      have g2 := g1.trans (going_pot (But.refl p _) hp2)
      refine ⟨_, _, rfl, rfl, 1 + r2, rfl, by omega, by omega, ?_⟩
      refine for_range (lo := 0) (n := (1 + r2).toNat) (fun i σ H' => ∃ z v2, σ = [some (.ref p), some (.str z), v2] ∧ z.length = i ∧ z.cps.toList.all low = true ∧ Going p H H') ⟨_, _, rfl, rfl, rfl, g2⟩ (fun i σ H' hi hW => ?_) (fun σ H' hW => ?_)
      · obtain ⟨z, v2, rfl, hz, hzl, g3⟩ := hW
        obtain ⟨x3, y3, hp3⟩ := g3.2
        refine ⟨_, rfl, _, rfl, p, x3, y3, 26, rfl, hp3, by decide, by decide, fun r4 x4 y4 r40 r41 hp4 => ?_⟩
        have hr4 : r4.toNat < 26 := by omega
        obtain ⟨c, hc⟩ : ∃ c, ("abcdefghijklmnopqrstuvwxyz" : Str).cps.toList[r4.toNat]? = some c := ⟨_, List.getElem?_eq_getElem (show r4.toNat < ("abcdefghijklmnopqrstuvwxyz" : Str).cps.toList.length by rw [show ("abcdefghijklmnopqrstuvwxyz" : Str).cps.toList.length = 26 by decide +kernel]; exact hr4)⟩
        have e2 : r4 = (r4.toNat : Int) := by omega
        refine ⟨_, r4, c, rfl, rfl, (by show (26 : Nat) ≤ sizeLine; decide), (by rw [e2]; exact atI_nat hc), ?_⟩
        refine ⟨_, _, rfl, rfl, ?_, ?_⟩
        · show z.length + 1 ≤ sizeLine
          rw [hz, sizeLine_eq]
          omega
        · refine ⟨_, _, rfl, ?_, ?_, g3.trans (going_pot (But.refl p _) hp4)⟩
          · rw [← len_tl, tl_app, List.length_append, len_tl, hz]
            rfl
          · rw [tl_app, List.all_append, hzl]
            show (low c && true) = true
            rw [abc_low _ _ hc]
            rfl
      · obtain ⟨z, v2, rfl, hz, hzl, g3⟩ := hW
        refine ⟨_, rfl, (by show 4 ≤ sizeLine; decide), fun l hl => ?_⟩
        have g4 := g3.new (o := .lst [.str "number", .str "truth", .str "yes", .str "no"]) hl
        refine ⟨l, _, rfl, .inl (SqL.of upd_same), rfl, rfl, _, rfl, ?_⟩
        show if (inV (.str z) [.str "number", .str "truth", .str "yes", .str "no"]) = true then _ else _
        refine ite2 (fun e => ?_) (fun e => ?_)
        · refine ⟨_, rfl, 7, rfl, z, rfl, (by rw [hz, sizeLine_eq]; omega), _, _, rfl, rfl, ?_, ?_⟩
          · have h7 := kept_cut z e
            rw [sizeLine_eq]
            have : ("x" : Str).length = 1 := by decide
            omega
          · refine q _ _ ?_ g4
            exact kept_x z e
        · refine ⟨_, rfl, ?_⟩
          refine q z _ ?_ g4
          have e1 : keptS z = false := by simpa [keptS] using e
          unfold nameS
          rw [hzl, e1, hz, decide_eq_true (show 1 ≤ (1 + r2).toNat by omega), decide_eq_true (show (1 + r2).toNat ≤ 8 by omega)]
          rfl
end
end K11
set_option Elab.async false
set_option linter.all false
set_option maxRecDepth 100000
set_option maxHeartbeats 4000000
namespace K11
open PySem PySem.Spec PyProof.Rows L2
open C8 (Cal Def cal0 pe_c fnBody fnScope fnArgs)
inductive Kd where
  | num | tru | rcd (z : Str) | lst (k : Kd)
def Kd.d : Kd → PyData
  | .num => .tuple [.str "number"]
  | .tru => .tuple [.str "truth"]
  | .rcd z => .tuple [.str "record", .str z]
  | .lst k => .tuple [.str "list", k.d]
def Kd.ok : Kd → Prop
  | .num => True
  | .tru => True
  | .rcd z => nameS z = true
  | .lst k => k.ok
def Kd.deep : Kd → Nat
  | .lst k => k.deep + 1
  | _ => 0
section
variable {P : Program} {w : World} {K : PySem.W.Frag} {mg : Str → Option Value} {base : Heap}
/-- a promise that is never asked -/
def spNo : Sp := fun _ _ _ _ => False
theorem cal_no {k : Nat} {x : Str} {st : Stmt} {f : Addr} {fd : FuncData} {ps : List Str} (sp : Sp) (h : ∀ vs H Q E, sp vs H Q E → False) (D : Def K mg x st f fd) (b : Binds K fd ps []) : Cal P w K mg base k x sp [] :=
  ⟨f, fd, ps, [], ⟨fun _ _ _ _ z => (h _ _ _ _ z).elim, fun _ _ _ _ _ _ _ _ _ _ _ _ _ z => (h _ _ _ _ z).elim⟩, D.mgf, D.kp, b, .nil⟩
abbrev sLKind : Stmt := topS 12
abbrev NLKind : List Str := ["_law_pot_here", "_law_deep", "_law_way"]
theorem scLKind : FnScope NLKind ["_law_pot_here", "_law_deep"] (fnScope sLKind) := ⟨rfl, rfl, rfl, by decide +kernel, rfl, by decide +kernel, by decide +kernel⟩
def spKind (K : PySem.W.Frag) (n : Nat) : Sp := fun vs H Q _ => ∃ (p : Addr) (x y : Int) (m : Nat), vs = [.ref p, .int m] ∧ m < n ∧ Pot H p x y ∧
  ∀ v (k : Kd) H', k.ok → k.deep ≤ m → Dh K p H' v k.d → Going p H H' → Q v H'
theorem c_kind (T : Tp mg) (c_LTake : Cal P w K mg base 1 "_law_take" spTake []) (c_LCalled : Cal P w K mg base 2 "_law_called" spCalled []) {f : Addr} {fd : FuncData} (D : Def K mg "_law_kind" sLKind f fd) (b : Binds K fd ["_law_pot_here", "_law_deep"] []) :
    ∀ n : Nat, Cal P w K mg base (2 + n) "_law_kind" (spKind K n) []
  | 0 => cal_no _ (fun vs H Q E ⟨p, x, y, m, _, h, _⟩ => absurd h (Nat.not_lt_zero _)) D b
  | n + 1 => by
    have c_LKind := c_kind T c_LTake c_LCalled D b n
    refine cal0 D b .nil scLKind (fun vs H Q E h => ?_) (fun cdv A outer s H vs Q E hr h => ?_)
    · obtain ⟨p, x, y, m, rfl, _⟩ := h
      rfl
    · obtain ⟨p, x, y, m, rfl, hm, hp, q⟩ := h
      have nd := scLKind.nd
      have hr := (show Room (2 + n) _ from hr)
      refine ⟨_, (pss_cons (ps_set (i := 2) nd rfl (.inl rfl) (pe_c c_LTake hr (by omega) (by rfl) (pa_cons (pv 0) (pa_cons pe_int pa_nil))))
    (pss_cons (ps_if (PW.pt (pw_and (pt_cmpR op_gt (pv 2) pe_int (nomark _)) (pw_and1 (pt_cmpR op_gt (pv 1) pe_int (nomark _)))))
      (pss_one (ps_ret (pe_tup (pa_cons pe_str (pa_cons (pe_c c_LKind hr (by omega) (by rfl) (pa_cons (pv 0) (pa_cons (pe_op op_sub (pv 1) pe_int) pa_nil))) pa_nil)))))
      pss_nil)
    (pss_one (ps_ret (pe_ix ix_list (pe_lst (pa_cons (pe_tup (pa_cons pe_str pa_nil)) (pa_cons (pe_tup (pa_cons pe_str pa_nil)) (pa_cons (pe_tup (pa_cons pe_str (pa_cons (pe_c c_LCalled hr (by omega) (by rfl) (pa_cons (pv 0) pa_nil)) pa_nil))) pa_nil)))) (pe_op op_modN (pv 2) pe_int) (fun _ _ => rfl)))))), ?_⟩
      refine ⟨_, rfl, p, x, y, 6, rfl, hp, by decide, by decide, fun r x1 y1 r0 r1 hp1 => ?_⟩
      have g1 : Going p H (upd H p (.lst [.int x1, .int y1])) := going_pot (But.refl p H) hp1
      have rest : ∀ (H1 : Hp) , Going p H H1 → (tRet (tOp (rIxL K) (tLst (tCons (tTup (tCons (tC (.str "number")) tNil)) (tCons (tTup (tCons (tC (.str "truth")) tNil)) (tCons (tTup (tCons (tC (.str "record")) (tCons (tCall spCalled [] C8.E0 (tCons (tVar 0) tNil)) tNil))) tNil)))) (tOp (rI (fun _ j => j ≠ 0) fun i j => .int (i.fmod j)) (tVar 2) (tC (.int 3))))) { nx := fun _ H' => Q .non H', rt := Q } [some (.ref p), some (.int m), some (.int r)] H1 := by
        intro H1 g
        obtain ⟨x2, y2, hp2⟩ := g.2
        refine ⟨(by show 1 ≤ sizeLine; decide), fun t1 h1 => ⟨(by show 1 ≤ sizeLine; decide), fun t2 h2 => ?_⟩⟩
        have n1 := hp2.ne h1
        have gA := (g.new (o := .tup [.str "number"]) h1)
        have n2 := gA.ne h2
        have gB := (gA.new (o := .tup [.str "truth"]) h2)
        obtain ⟨x3, y3, hp3⟩ := gB.2
        refine ⟨_, rfl, p, x3, y3, rfl, hp3, fun z H2 hz g2 => ?_⟩
        refine ⟨(by show 2 ≤ sizeLine; decide), fun t3 h3 => ⟨(by show 3 ≤ sizeLine; decide), fun l hl => ?_⟩⟩
        have gC := (gB.trans g2).new (o := .tup [.str "record", .str z]) h3
        have n3 := g2.ne h3
        have gD := gC.new (o := .lst [.ref t1, .ref t2, .ref t3]) hl
        have D1 : Dh K p H2 (.ref t1) (Kd.num).d := ((Dp.newT h1 n1 (.cons (.str _) .nil)).but (But.new h2)).but g2.1
        have D2 : Dh K p H2 (.ref t2) (Kd.tru).d := (Dp.newT h2 n2 (.cons (.str _) .nil)).but g2.1
        have D3 : Dh K p (upd H2 t3 (.tup [.str "record", .str z])) (.ref t3) (Kd.rcd z).d := Dp.newT h3 n3 (.cons (.str _) (.cons (.str _) .nil))
        refine ⟨_, rfl, _, _, rfl, rfl, (by show (3 : Int) ≠ 0; decide), ?_⟩
        have r3 : 0 ≤ r.fmod 3 := fmod_lo (by decide)
        have r4 : r.fmod 3 < 3 := fmod_hi (by decide)
        have hL : SqL K (upd (upd H2 t3 (.tup [.str "record", .str z])) l (.lst [.ref t1, .ref t2, .ref t3])) l [.ref t1, .ref t2, .ref t3] := SqL.of upd_same
        have hcase : r.fmod 3 = 0 ∨ r.fmod 3 = 1 ∨ r.fmod 3 = 2 := by omega
        rcases hcase with e | e | e
        · refine ⟨l, _, _, .ref t1, rfl, rfl, hL, by rw [e]; exact atI_nat (j := 0) rfl, ?_⟩
          exact q _ .num _ True.intro (Nat.zero_le _) ((D1.but (But.new h3)).but (But.new hl)) gD
        · refine ⟨l, _, _, .ref t2, rfl, rfl, hL, by rw [e]; exact atI_nat (j := 1) rfl, ?_⟩
          exact q _ .tru _ True.intro (Nat.zero_le _) ((D2.but (But.new h3)).but (But.new hl)) gD
        · refine ⟨l, _, _, .ref t3, rfl, rfl, hL, by rw [e]; exact atI_nat (j := 2) rfl, ?_⟩
          exact q _ (.rcd z) _ hz (Nat.zero_le _) (D3.but (But.new hl)) gD
      refine ⟨_, rfl, _, _, rfl, rfl, _, rfl, ite2 (fun e => ?_) (fun e => ?_)⟩
      · refine ⟨_, rfl, _, _, rfl, rfl, _, rfl, ite2 (fun e2 => ?_) (fun e2 => ?_)⟩
        · have m0 : (0 : Int) < m := of_decide_eq_true e2
          refine ⟨_, rfl, _, rfl, _, _, rfl, rfl, p, x1, y1, m - 1, ?_, by omega, hp1, fun v k H2 hk hd hD g2 => ?_⟩
          · show [V.ref p, V.int ((m : Int) - 1)] = _
            rw [show ((m - 1 : Nat) : Int) = (m : Int) - 1 by omega]
          · refine ⟨(by show 2 ≤ sizeLine; decide), fun t ht => ?_⟩
            exact q _ (.lst k) _ hk (by show k.deep + 1 ≤ m; omega) (Dp.newT ht (g2.ne ht) (.cons (.str _) (.cons hD .nil))) ((g1.trans g2).new ht)
        · exact rest _ g1
      · show (if (false : Bool) = true then _ else _)
        exact iteF (rest _ g1)

/-! ### the program's looks -/
def nameB : PyData → Bool
  | .str z => nameS z
  | _ => false
def pairB (w : Str) : PyData → Bool
  | .tuple [.str u, _] => u == w
  | _ => false
def kindB : PyData → Bool
  | .tuple [.str w] => w == "number" || w == "truth"
  | .tuple [.str w, x] => if w == "list" then kindB x else w == "record" && nameB x
  | _ => false
theorem ascii_tab : (List.range 128).all (fun c => (Unicode.isAlpha c && !(Unicode.isUpper c || Unicode.isTitle c)) == low c && (!low c || Unicode.isLower c)) = true := by decide +kernel
theorem ascii_low {c : Nat} (h : c < 128) : (Unicode.isAlpha c && !(Unicode.isUpper c || Unicode.isTitle c)) = low c ∧ (low c = true → Unicode.isLower c = true) := by
  have h1 := List.all_eq_true.mp ascii_tab c (List.mem_range.mpr h)
  rw [Bool.and_eq_true] at h1
  refine ⟨eq_of_beq h1.1, fun hl => ?_⟩
  have h2 := h1.2
  rw [hl] at h2
  simpa using h2
theorem low128 {c : Nat} (h : low c = true) : c < 128 := by
  unfold low at h
  rw [Bool.and_eq_true] at h
  have := of_decide_eq_true h.2
  omega
theorem ascii3 {z : Str} (h : 1 ≤ z.length) : (PySem.Txt.isascii z && (PySem.Txt.isalpha z && PySem.Txt.islower z)) = z.cps.toList.all low := by
  unfold PySem.Txt.isascii PySem.Txt.isalpha PySem.Txt.islower
  simp only [← Array.all_toList, ← Array.any_toList]
  rw [Bool.eq_iff_iff]
  simp only [Bool.and_eq_true, List.all_eq_true, decide_eq_true_eq, List.any_eq_true, Bool.not_eq_true', List.any_eq_false]
  constructor
  · rintro ⟨h1, ⟨_, h3⟩, ⟨_, h5⟩⟩ c hc
    have a := (ascii_low (h1 c hc)).1
    rw [← a, h3 c hc]
    have b := h5 c hc
    simp only [Bool.not_eq_true] at b
    rw [b]
    rfl
  · intro hl
    have ne : z.cps.toList ≠ [] := fun e => by
      have := len_tl z
      rw [e] at this
      simp at this
      omega
    obtain ⟨c0, hc0⟩ := List.exists_mem_of_ne_nil _ ne
    have fact : ∀ c ∈ z.cps.toList, Unicode.isAlpha c = true ∧ (Unicode.isUpper c || Unicode.isTitle c) = false := fun c hc => by
      have a := (ascii_low (low128 (hl c hc))).1
      rw [hl c hc, Bool.and_eq_true, Bool.not_eq_true'] at a
      exact a
    refine ⟨fun c hc => low128 (hl c hc), ⟨?_, fun c hc => (fact c hc).1⟩, ⟨c0, hc0, (ascii_low (low128 (hl c0 hc0))).2 (hl c0 hc0)⟩, fun c hc => ?_⟩
    · show z.length > 0
      omega
    · simp only [Bool.not_eq_true]
      exact (fact c hc).2
/-! texts of data are short -/
mutual
def short : PyData → Bool
  | .str z => decide (z.length ≤ 1000)
  | .list xs => decide (xs.length ≤ 1000) && shortAll xs
  | .tuple xs => decide (xs.length ≤ 1000) && shortAll xs
  | .dict _ => false
  | _ => true
def shortAll : List PyData → Bool
  | [] => true
  | x :: xs => short x && shortAll xs
end
abbrev sPIsName : Stmt := topS 3
abbrev NPIsName : List Str := ["thing"]
theorem scPIsName : FnScope NPIsName ["thing"] (fnScope sPIsName) := ⟨rfl, rfl, rfl, by decide +kernel, rfl, by decide +kernel, by decide +kernel⟩
/-- a look at data: a truth told, all stays -/
def spLook (K : PySem.W.Frag) (g : PyData → Bool) : Sp := fun vs H Q _ => ∃ v d, vs = [v] ∧ Dp K H v d ∧ short d = true ∧ ∀ H', Same H H' → Q (.bl (g d)) H'
/-- the names that are kept, as the module has them -/
structure Kept (K : PySem.W.Frag) (mg : Str → Option Value) (aK : Addr) : Prop where
  g : ∃ u, mg "KEPT_WORDS" = some u ∧ RelV (.ref aK) u
  sq : ∀ H, SqT K H aK [.str "number", .str "truth", .str "yes", .str "no"]
theorem c_isName (T : Tp mg) {aK : Addr} (TK : Kept K mg aK) {f : Addr} {fd : FuncData} (D : Def K mg "is_name" sPIsName f fd) (b : Binds K fd ["thing"] []) : Cal P w K mg base 1 "is_name" (spLook K nameB) [] := by
  refine cal0 D b .nil scPIsName (fun vs H Q E h => ?_) (fun cdv A outer s H vs Q E hr h => ?_)
  · obtain ⟨v, d, rfl, _⟩ := h
    rfl
  · obtain ⟨v, d, rfl, hd, hs, q⟩ := h
    refine ⟨_, (pss_cons (ps_if (PW.pt (pw_or (pt_not (pt_val (pe_callB call_isD (by rfl) T.n_isinstance (by decide +kernel) (pa_cons (pv 0) (pa_cons (pe_bltn (v := .ty "str") (by rfl) T.n_str (by decide +kernel) rfl) pa_nil))))) (pw_or1 (pt_not (pt_chain op_le op_le pe_int (pe_callB call_len_str (by rfl) T.n_len (by decide +kernel) (pa_cons (pv 0) pa_nil)) (C8.pe_gc (by rfl) T.g_LONGEST_NAME))))))
      (pss_one (ps_ret pe_bl))
      pss_nil)
    (pss_one (ps_ret (pe_and (pe_m0 PySem.F.slot_str_isascii PySem.F.type_str_isascii mt_isascii (pv 0)) (pe_and (pe_m0 PySem.F.slot_str_isalpha PySem.F.type_str_isalpha mt_isalpha (pv 0)) (pe_and (pe_m0 PySem.F.slot_str_islower PySem.F.type_str_islower mt_islower (pv 0)) (pe_one (pe_cmpR op_notIn_seq (pv 0) (C8.pe_gc (by rfl) TK.g) (by rfl))))))))), ?_⟩
    refine ⟨_, rfl, v, d, "str", rfl, hd, by decide, _, rfl, ?_⟩
    cases hd with
    | str z =>
      have hz : z.length ≤ 1000 := of_decide_eq_true hs
      refine iteF ?_
      refine ⟨_, rfl, z, rfl, by rw [sizeLine_eq]; omega, _, _, rfl, rfl, _, rfl, ite2 (fun e1 => ?_) (fun e1 => ?_)⟩
      · have e1' : (1 : Int) ≤ z.length := of_decide_eq_true e1
        refine ⟨_, _, rfl, rfl, _, rfl, ite2 (fun e2 => ?_) (fun e2 => ?_)⟩
        · have e2' : ¬ ((z.length : Int) ≤ 8) := by simpa using e2
          show Q (.bl false) H
          have e : nameB (.str z) = false := by
            show nameS z = false
            unfold nameS
            rw [decide_eq_false (show ¬ z.length ≤ 8 by omega), Bool.and_false, Bool.false_and]
          exact e ▸ q H (Same.refl H)
        · have e2' : ((z.length : Int) ≤ 8) := by simpa using e2
          have e : nameB (.str z) = (PySem.Txt.isascii z && (PySem.Txt.isalpha z && (PySem.Txt.islower z && !keptS z))) := by
            show nameS z = _
            unfold nameS
            rw [decide_eq_true (show 1 ≤ z.length by omega), decide_eq_true (show z.length ≤ 8 by omega), ← ascii3 (show 1 ≤ z.length by omega)]
            simp only [Bool.and_assoc, Bool.true_and]
          have q' := q H (Same.refl H)
          rw [e] at q'
          refine ⟨_, rfl, ⟨z, rfl⟩, z, rfl, rfl, True.intro, _, rfl, ite2 (fun f1 => ?_) (fun f1 => ?_)⟩
          · rw [f1] at q'
            refine ⟨_, rfl, ⟨z, rfl⟩, z, rfl, rfl, True.intro, _, rfl, ite2 (fun f2 => ?_) (fun f2 => ?_)⟩
            · rw [f2] at q'
              refine ⟨_, rfl, ⟨z, rfl⟩, z, rfl, rfl, True.intro, _, rfl, ite2 (fun f3 => ?_) (fun f3 => ?_)⟩
              · rw [f3] at q'
                exact ⟨_, rfl, aK, _, rfl, .inr (TK.sq H), rfl, rfl, q'⟩
              · rw [eq_false_of_ne_true f3] at q'
                exact q'
            · rw [eq_false_of_ne_true f2] at q'
              exact q'
          · rw [eq_false_of_ne_true f1] at q'
            exact q'
      · refine ⟨_, rfl, iteT ?_⟩
        have e1' : ¬ ((1 : Int) ≤ z.length) := by simpa using e1
        have e : nameB (.str z) = false := by
          show nameS z = false
          unfold nameS
          rw [decide_eq_false (show ¬ 1 ≤ z.length by omega), Bool.false_and, Bool.false_and]
        exact e ▸ q H (Same.refl H)
    | _ => exact iteT (q H (Same.refl H))
end
end K11
set_option Elab.async false
set_option linter.all false
set_option maxRecDepth 100000
set_option maxHeartbeats 4000000
namespace K11
open PySem PySem.Spec PyProof.Rows L2
open C8 (Cal Def cal0 pe_c fnBody fnScope fnArgs)
section
variable {P : Program} {w : World} {K : PySem.W.Frag} {mg : Str → Option Value} {base : Heap}
theorem pairB_of {u : Str} {d : PyData} (h : pairB u d = true) : ∃ x, d = .tuple [.str u, x] := by
  unfold pairB at h
  split at h
  · rename_i y x
    have e : y = u := eq_of_beq h
    exact ⟨x, by rw [e]⟩
  · cases h
theorem pairB_two {u : Str} {ds : List PyData} (h : ds.length ≠ 2) : pairB u (.tuple ds) = false := by
  match ds, h with
  | [], _ => rfl
  | [_], _ => simp [pairB]
  | [_, _], h => exact absurd rfl h
  | _ :: _ :: _ :: _, _ => simp [pairB]
theorem short_all {ds : List PyData} (h : short (.tuple ds) = true) : ds.length ≤ 1000 ∧ shortAll ds = true := by
  have h' : (decide (ds.length ≤ 1000) && shortAll ds) = true := by simpa [short] using h
  rw [Bool.and_eq_true, decide_eq_true_eq] at h'
  exact h'
theorem short_two {x y : PyData} (h : short (.tuple [x, y]) = true) : short x = true ∧ short y = true := by
  have h1 := (short_all h).2
  simpa [shortAll] using h1
theorem _root_.L2.DpAll.two {H : Hp} {xs : List V} {x y : PyData} (h : DpAll K H xs [x, y]) : ∃ u v, xs = [u, v] ∧ Dp K H u x ∧ Dp K H v y := by
  cases h with
  | cons h0 t =>
    cases t with
    | cons h1 t2 =>
      cases t2
      exact ⟨_, _, rfl, h0, h1⟩
theorem _root_.L2.DpAll.one {H : Hp} {xs : List V} {x : PyData} (h : DpAll K H xs [x]) : ∃ u, xs = [u] ∧ Dp K H u x := by
  cases h with
  | cons h0 t =>
    cases t
    exact ⟨_, rfl, h0⟩
theorem two_of {α : Type} {l : List α} (h : l.length = 2) : ∃ x y, l = [x, y] := by
  match l, h with
  | [x, y], _ => exact ⟨x, y, rfl⟩
theorem one_of {α : Type} {l : List α} (h : l.length = 1) : ∃ x, l = [x] := by
  match l, h with
  | [x], _ => exact ⟨x, rfl⟩
theorem ne_int {m : Nat} {n : Nat} (h : m ≠ n) : (!decide (V.int (m : Int) = V.int (n : Int))) = true := by
  rw [decide_eq_false (fun e => h (by have := V.int.inj e; omega))]
  rfl
theorem eq_int {m : Nat} {n : Nat} (h : m = n) : (!decide (V.int (m : Int) = V.int (n : Int))) = false := by
  rw [decide_eq_true (by rw [h])]
  rfl
theorem iteT' {c : Bool} {A B : Prop} (e : c = true) (h : A) : if c = true then A else B := by
  subst e
  exact iteT h
theorem iteF' {c : Bool} {A B : Prop} (e : c = false) (h : B) : if c = true then A else B := by
  subst e
  exact iteF h
abbrev sPIsPair : Stmt := topS 5
abbrev NPIsPair : List Str := ["thing", "word"]
theorem scPIsPair : FnScope NPIsPair ["thing", "word"] (fnScope sPIsPair) := ⟨rfl, rfl, rfl, by decide +kernel, rfl, by decide +kernel, by decide +kernel⟩
def spPair (K : PySem.W.Frag) : Sp := fun vs H Q _ => ∃ v d u, vs = [v, .str u] ∧ Dp K H v d ∧ short d = true ∧ ∀ H', Same H H' → Q (.bl (pairB u d)) H'
theorem c_isPair (T : Tp mg) {f : Addr} {fd : FuncData} (D : Def K mg "_is_pair" sPIsPair f fd) (b : Binds K fd ["thing", "word"] []) : Cal P w K mg base 1 "_is_pair" (spPair K) [] := by
  refine cal0 D b .nil scPIsPair (fun vs H Q E h => ?_) (fun cdv A outer s H vs Q E hr h => ?_)
  · obtain ⟨v, d, u, rfl, _⟩ := h
    rfl
  · obtain ⟨v, d, u, rfl, hd, hs, q⟩ := h
    refine ⟨_, (pss_cons (ps_if (PW.pt (pw_or (pt_not (pt_val (pe_callB call_isD (by rfl) T.n_isinstance (by decide +kernel) (pa_cons (pv 0) (pa_cons (pe_bltn (v := .ty "tuple") (by rfl) T.n_tuple (by decide +kernel) rfl) pa_nil))))) (pw_or1 (pt_cmpR op_ne (pe_callB call_len_seq (by rfl) T.n_len (by decide +kernel) (pa_cons (pv 0) pa_nil)) pe_int (nomark _)))))
      (pss_one (ps_ret pe_bl))
      pss_nil)
    (pss_one (ps_ret (pe_and (pe_callB call_isD (by rfl) T.n_isinstance (by decide +kernel) (pa_cons (pe_ix ix_tup (pv 0) pe_int (fun _ _ => rfl)) (pa_cons (pe_bltn (v := .ty "str") (by rfl) T.n_str (by decide +kernel) rfl) pa_nil))) (pe_one (pe_cmpR op_eq (pe_ix ix_tup (pv 0) pe_int (fun _ _ => rfl)) (pv 1) (nomark _))))))), ?_⟩
    refine ⟨_, rfl, v, d, "tuple", rfl, hd, by decide, _, rfl, ?_⟩
    cases hd with
    | @tup a xs ds hq ha =>
      refine iteF ?_
      have hlen := ha.len
      refine ⟨_, rfl, a, xs, rfl, .inr hq, rfl, _, rfl, ?_⟩
      by_cases h2 : ds.length = 2
      · refine iteF' (eq_int (n := 2) (by omega)) ?_
        obtain ⟨d0, d1, rfl⟩ := two_of h2
        obtain ⟨v0, v1, rfl, h0, h1⟩ := ha.two
        refine ⟨_, rfl, a, _, _, v0, rfl, rfl, hq, atI_nat (j := 0) rfl, v0, d0, "str", rfl, h0, by decide, _, rfl, ?_⟩
        cases h0 with
        | str y =>
          refine iteT ?_
          refine ⟨_, rfl, a, _, _, .str y, rfl, rfl, hq, atI_nat (j := 0) rfl, _, rfl, rfl, ?_⟩
          have q' := q H (Same.refl H)
          rw [dec_str]
          exact q'
        | _ => exact iteF (q H (Same.refl H))
      · refine iteT' (ne_int (n := 2) (by omega)) ?_
        have q' := q H (Same.refl H)
        rw [pairB_two h2] at q'
        exact q'
    | _ => exact iteT (q H (Same.refl H))

end
end K11
set_option Elab.async false
set_option linter.all false
set_option maxRecDepth 100000
set_option maxHeartbeats 4000000
namespace K11
open PySem PySem.Spec PyProof.Rows L2
open C8 (Cal Def cal0 pe_c fnBody fnScope fnArgs)
section
variable {P : Program} {w : World} {K : PySem.W.Frag} {mg : Str → Option Value} {base : Heap}
abbrev sPIsKind : Stmt := topS 4
abbrev NPIsKind : List Str := ["thing"]
theorem scPIsKind : FnScope NPIsKind ["thing"] (fnScope sPIsKind) := ⟨rfl, rfl, rfl, by decide +kernel, rfl, by decide +kernel, by decide +kernel⟩
theorem kindB_list (x : PyData) : kindB (.tuple [.str "list", x]) = kindB x := by
  rw [kindB]
  rfl
theorem kindB_rec (x : PyData) : kindB (.tuple [.str "record", x]) = nameB x := by
  rw [kindB]
  rfl
theorem kindB_one (ds : List PyData) (h : ds.length ≠ 1) (hl : pairB "list" (.tuple ds) = false) (hr : pairB "record" (.tuple ds) = false) : kindB (.tuple ds) = false := by
  match ds, h, hl, hr with
  | [], _, _, _ => simp [kindB]
  | [_], h, _, _ => exact absurd rfl h
  | [d0, d1], _, hl, hr =>
    cases d0 with
    | str u =>
      have h1 : (u == ("list" : Str)) = false := hl
      have h2 : (u == ("record" : Str)) = false := hr
      rw [kindB, h1, h2]
      rfl
    | _ => simp [kindB]
  | _ :: _ :: _ :: _, _, _, _ => simp [kindB]
theorem kindB_not {d : PyData} (h : isT d = false) : kindB d = false := by
  cases d <;> first | (simp [isT] at h; done) | simp [kindB]
theorem depth_list (x : PyData) (u : Str) : (PyData.tuple [.str u, x]).depth = x.depth + 1 := by
  simp [PyData.depth, PyData.depthAll]
theorem c_isKind (T : Tp mg) (c_PIsPair : Cal P w K mg base 1 "_is_pair" (spPair K) []) (c_PIsName : Cal P w K mg base 1 "is_name" (spLook K nameB) []) {f : Addr} {fd : FuncData} (D : Def K mg "is_kind" sPIsKind f fd) (b : Binds K fd ["thing"] []) :
    Cal P w K mg base 2 "is_kind" (spLook K kindB) [] := by
  refine cal0 D b .nil scPIsKind (fun vs H Q E h => ?_) (fun cdv A outer s H vs Q E hr h => ?_)
  · obtain ⟨v, d, rfl, _⟩ := h
    rfl
  · obtain ⟨v0, d0, rfl, hd0, hs0, q⟩ := h
    have nd := scPIsKind.nd
    refine ⟨_, (pss_cons (ps_while PassesOwn.never (pt_val (pe_c c_PIsPair hr (by decide) (by rfl) (pa_cons (pv 0) (pa_cons pe_str pa_nil))))
      (pss_one (ps_set (i := 0) nd rfl (.inl rfl) (pe_ix ix_tup (pv 0) pe_int (fun _ _ => rfl)))))
    (pss_cons (ps_if (pt_val (pe_c c_PIsPair hr (by decide) (by rfl) (pa_cons (pv 0) (pa_cons pe_str pa_nil))))
      (pss_one (ps_ret (pe_c c_PIsName hr (by decide) (by rfl) (pa_cons (pe_ix ix_tup (pv 0) pe_int (fun _ _ => rfl)) pa_nil))))
      pss_nil)
    (pss_cons (ps_if (PW.pt (pw_or (pt_not (pt_val (pe_callB call_isD (by rfl) T.n_isinstance (by decide +kernel) (pa_cons (pv 0) (pa_cons (pe_bltn (v := .ty "tuple") (by rfl) T.n_tuple (by decide +kernel) rfl) pa_nil))))) (pw_or1 (pt_cmpR op_ne (pe_callB call_len_seq (by rfl) T.n_len (by decide +kernel) (pa_cons (pv 0) pa_nil)) pe_int (nomark _)))))
      (pss_one (ps_ret pe_bl))
      pss_nil)
    (pss_one (ps_ret (pe_and (pe_callB call_isD (by rfl) T.n_isinstance (by decide +kernel) (pa_cons (pe_ix ix_tup (pv 0) pe_int (fun _ _ => rfl)) (pa_cons (pe_bltn (v := .ty "str") (by rfl) T.n_str (by decide +kernel) rfl) pa_nil))) (pe_one (pe_cmpR op_in_seq (pe_ix ix_tup (pv 0) pe_int (fun _ _ => rfl)) (pe_tup (pa_cons pe_str (pa_cons pe_str pa_nil))) (by rfl))))))))), ?_⟩
    refine ⟨fun m σ H1 => ∃ v d, σ = [some v] ∧ Dp K H1 v d ∧ short d = true ∧ kindB d = kindB d0 ∧ Same H H1 ∧ m = d.depth, ⟨_, v0, d0, rfl, hd0, hs0, rfl, Same.refl H, rfl⟩, ?_⟩
    rintro m σ H1 ⟨v, d, rfl, hd, hs, hk, hS, rfl⟩
    refine ⟨_, rfl, v, d, "list", rfl, hd, hs, fun H2 e2 => ⟨_, rfl, ite2 (fun e => ?_) (fun e => ?_)⟩⟩
    · obtain ⟨x, rfl⟩ := pairB_of e
      cases hd with
      | tup hq ha =>
        obtain ⟨u0, u1, rfl, g0, g1⟩ := ha.two
        · refine ⟨fun σ' H' => ∃ m', m' < _ ∧ ∃ v d, σ' = [some v] ∧ Dp K H' v d ∧ short d = true ∧ kindB d = kindB d0 ∧ Same H H' ∧ m' = d.depth, fun σ' H' h => h, ?_⟩
          refine ⟨_, rfl, _, _, _, u1, rfl, rfl, sqT_mono e2 hq, atI_nat (j := 1) rfl, ?_⟩
          exact ⟨x.depth, by rw [depth_list]; exact Nat.lt_succ_self _, u1, x, rfl, g1.mono e2, (short_two hs).2, by rw [← hk, kindB_list], hS.trans e2, rfl⟩
    · have hl : pairB "list" d = false := eq_false_of_ne_true e
      have hS2 := hS.trans e2
      have hd2 := hd.mono e2
      refine ⟨_, rfl, v, d, "record", rfl, hd2, hs, fun H3 e3 => ⟨_, rfl, ite2 (fun e => ?_) (fun e => ?_)⟩⟩
      · obtain ⟨x, rfl⟩ := pairB_of e
        cases hd2 with
        | tup hq ha =>
          obtain ⟨u0, u1, rfl, g0, g1⟩ := ha.two
          · refine ⟨_, rfl, _, _, _, u1, rfl, rfl, sqT_mono e3 hq, atI_nat (j := 1) rfl, u1, x, rfl, g1.mono e3, (short_two hs).2, fun H4 e4 => ?_⟩
            have q' := q H4 ((hS2.trans e3).trans e4)
            rw [← hk, kindB_rec] at q'
            exact q'
      · have hrr : pairB "record" d = false := eq_false_of_ne_true e
        have hd3 := hd2.mono e3
        have q' := q H3 (hS2.trans e3)
        refine ⟨_, rfl, v, d, "tuple", rfl, hd3, by decide, _, rfl, ?_⟩
        cases hd3 with
        | @tup a xs ds hq ha =>
          refine iteF ?_
          have hlen := ha.len
          refine ⟨_, rfl, a, xs, rfl, .inr hq, rfl, _, rfl, ?_⟩
          by_cases h2 : ds.length = 1
          · refine iteF' (eq_int (n := 1) (by omega)) ?_
            obtain ⟨d1, rfl⟩ := one_of h2
            obtain ⟨u0, rfl, g0⟩ := ha.one
            · refine ⟨_, rfl, a, _, _, u0, rfl, rfl, hq, atI_nat (j := 0) rfl, u0, d1, "str", rfl, g0, by decide, _, rfl, ?_⟩
              cases g0 with
              | str y =>
                refine iteT ?_
                refine ⟨_, rfl, a, _, _, .str y, rfl, rfl, hq, atI_nat (j := 0) rfl, (by show 2 ≤ sizeLine; decide), fun t ht => ⟨t, _, rfl, .inr (SqT.of upd_same), rfl, rfl, ?_⟩⟩
                have q' := q _ ((hS2.trans e3).trans (Same.new (o := .tup [.str "number", .str "truth"]) ht))
                have ek : kindB (.tuple [.str y]) = inV (.str y) [.str "number", .str "truth"] := by
                  show (y == ("number" : Str) || y == ("truth" : Str)) = (("number" : Str) == y || (("truth" : Str) == y || false))
                  rw [Bool.or_false, Bool.eq_iff_iff]
                  simp only [Bool.or_eq_true, beq_iff_eq]
                  constructor <;> (rintro (h | h)) <;> first | exact .inl h.symm | exact .inr h.symm
                rw [← hk, ek] at q'
                exact q'
              | _ =>
                rw [← hk] at q'
                exact iteF (by simpa [kindB] using q')
          · refine iteT' (ne_int (n := 1) (by omega)) ?_
            rw [← hk, kindB_one ds h2 hl hrr] at q'
            exact q'
        | _ =>
          rw [← hk, kindB_not rfl] at q'
          exact iteT q'
end
end K11
set_option Elab.async false
set_option linter.all false
set_option maxRecDepth 100000
set_option maxHeartbeats 4000000
namespace K11
open PySem PySem.Spec PyProof.Rows L2
open C8 (Cal Def cal0 pe_c fnBody fnScope fnArgs)
def Kd.word : Kd → Str
  | .num => "number"
  | .tru => "truth"
  | .rcd _ => "record"
  | .lst _ => "list"
def Kd.inner : Kd → List Str
  | .rcd z => [z]
  | .lst k => k.inner
  | _ => []
section
variable {P : Program} {w : World} {K : PySem.W.Frag} {mg : Str → Option Value} {base : Heap}
theorem kd_at {H : Hp} {v : V} {k : Kd} (h : Dp K H v k.d) : ∃ a xs, v = .ref a ∧ SqT K H a xs ∧ xs[0]? = some (.str k.word) ∧ (∀ k', k = .lst k' → ∃ v', xs = [.str "list", v'] ∧ Dp K H v' k'.d) ∧ (∀ z, k = .rcd z → xs = [.str "record", .str z]) ∧
    (k = .num → xs = [.str "number"]) ∧ (k = .tru → xs = [.str "truth"]) := by
  cases k with
  | num =>
    cases h with
    | tup hq ha =>
      obtain ⟨u, rfl, g⟩ := ha.one
      cases g
      exact ⟨_, _, rfl, hq, rfl, (fun _ e => nomatch e), (fun _ e => nomatch e), fun _ => rfl, fun e => nomatch e⟩
  | tru =>
    cases h with
    | tup hq ha =>
      obtain ⟨u, rfl, g⟩ := ha.one
      cases g
      exact ⟨_, _, rfl, hq, rfl, (fun _ e => nomatch e), (fun _ e => nomatch e), (fun e => nomatch e), fun _ => rfl⟩
  | rcd z =>
    cases h with
    | tup hq ha =>
      obtain ⟨u, u2, rfl, g, g2⟩ := ha.two
      cases g
      cases g2
      exact ⟨_, _, rfl, hq, rfl, (fun _ e => nomatch e), (fun z' e => by cases e; rfl), (fun e => nomatch e), fun e => nomatch e⟩
  | lst k' =>
    cases h with
    | tup hq ha =>
      obtain ⟨u, u2, rfl, g, g2⟩ := ha.two
      cases g
      exact ⟨_, _, rfl, hq, rfl, (fun k2 e => by cases e; exact ⟨u2, rfl, g2⟩), (fun _ e => nomatch e), (fun e => nomatch e), fun e => nomatch e⟩
theorem word_list {k : Kd} (h : k.word = "list") : ∃ k', k = .lst k' := by
  cases k with
  | lst k' => exact ⟨k', rfl⟩
  | num => exact absurd h (by decide)
  | tru => exact absurd h (by decide)
  | rcd z => exact absurd h (by show ¬ ("record" : Str) = "list"; decide)
theorem word_rec {k : Kd} (h : k.word = "record") : ∃ z, k = .rcd z := by
  cases k with
  | rcd z => exact ⟨z, rfl⟩
  | num => exact absurd h (by decide)
  | tru => exact absurd h (by decide)
  | lst k' => exact absurd h (by show ¬ ("list" : Str) = "record"; decide)
/-- a list of the names within, new -/
def spInner (K : PySem.W.Frag) (n : Nat) : Sp := fun vs H Q _ => ∃ v k, vs = [v] ∧ Dp K H v (Kd.d k) ∧ k.deep < n ∧ ∀ l H', H l = none → Same H H' → H' l = some (.lst (k.inner.map V.str)) → Q (.ref l) H'
theorem free_back {H H' : Hp} {p : Addr} (e : Same H H') (h : H' p = none) : H p = none := e.free h
abbrev sPNamesIn : Stmt := topS 6
abbrev NPNamesIn : List Str := ["kind"]
theorem scPNamesIn : FnScope NPNamesIn ["kind"] (fnScope sPNamesIn) := ⟨rfl, rfl, rfl, by decide +kernel, rfl, by decide +kernel, by decide +kernel⟩
theorem c_namesIn (n : Nat) {f : Addr} {fd : FuncData} (D : Def K mg "names_in" sPNamesIn f fd) (b : Binds K fd ["kind"] []) : Cal P w K mg base 1 "names_in" (spInner K n) [] := by
  refine cal0 D b .nil scPNamesIn (fun vs H Q E h => ?_) (fun cdv A outer s H vs Q E hr h => ?_)
  · obtain ⟨v, k, rfl, _⟩ := h
    rfl
  · obtain ⟨v0, k0, rfl, hd0, _, q⟩ := h
    have nd := scPNamesIn.nd
    refine ⟨_, (pss_cons (ps_while PassesOwn.never (pt_cmpR op_eq (pe_ix ix_tup (pv 0) pe_int (fun _ _ => rfl)) pe_str (nomark _))
      (pss_one (ps_set (i := 0) nd rfl (.inl rfl) (pe_ix ix_tup (pv 0) pe_int (fun _ _ => rfl)))))
    (pss_cons (ps_if (pt_cmpR op_eq (pe_ix ix_tup (pv 0) pe_int (fun _ _ => rfl)) pe_str (nomark _))
      (pss_one (ps_ret (pe_lst (pa_cons (pe_ix ix_tup (pv 0) pe_int (fun _ _ => rfl)) pa_nil))))
      pss_nil)
    (pss_one (ps_ret (pe_lst pa_nil))))), ?_⟩
    refine ⟨fun m σ H1 => ∃ v k, σ = [some v] ∧ Dp K H1 v (Kd.d k) ∧ k.inner = k0.inner ∧ H1 = H ∧ m = k.deep, ⟨_, v0, k0, rfl, hd0, rfl, rfl, rfl⟩, ?_⟩
    rintro m σ H1 ⟨v, k, rfl, hd, hk, rfl, rfl⟩
    obtain ⟨a, xs, rfl, hq, hx0, hxl, hxr, _, _⟩ := kd_at hd
    refine ⟨_, rfl, a, xs, _, _, rfl, rfl, hq, atI_nat (j := 0) hx0, rfl, _, rfl, ite2 (fun e => ?_) (fun e => ?_)⟩
    · obtain ⟨k', rfl⟩ := word_list (V.str.inj (of_decide_eq_true e))
      obtain ⟨v', rfl, hd'⟩ := hxl k' rfl
      refine ⟨fun σ' H' => ∃ m', m' < _ ∧ ∃ v k, σ' = [some v] ∧ Dp K H' v (Kd.d k) ∧ k.inner = k0.inner ∧ H' = H1 ∧ m' = k.deep, fun σ' H' h => h, ?_⟩
      refine ⟨_, rfl, a, _, _, v', rfl, rfl, hq, atI_nat (j := 1) rfl, ?_⟩
      exact ⟨k'.deep, Nat.lt_succ_self _, v', k', rfl, hd', hk, rfl, rfl⟩
    · refine ⟨_, rfl, a, xs, _, _, rfl, rfl, hq, atI_nat (j := 0) hx0, rfl, _, rfl, ite2 (fun e2 => ?_) (fun e2 => ?_)⟩
      · obtain ⟨z, rfl⟩ := word_rec (V.str.inj (of_decide_eq_true e2))
        have hx := hxr z rfl
        subst hx
        refine ⟨_, rfl, a, _, _, .str z, rfl, rfl, hq, atI_nat (j := 1) rfl, (by show 1 ≤ sizeLine; decide), fun l hl => ?_⟩
        refine q l _ hl (Same.new hl) ?_
        rw [upd_same, ← hk]
        rfl
      · refine ⟨(by show 0 ≤ sizeLine; decide), fun l hl => ?_⟩
        refine q l _ hl (Same.new hl) ?_
        rw [upd_same, ← hk]
        cases k with
        | lst k' => exact absurd (decide_eq_true rfl) e
        | rcd z => exact absurd (decide_eq_true rfl) e2
        | num => rfl
        | tru => rfl
abbrev sLInner : Stmt := topS 17
abbrev NLInner : List Str := ["_law_kind_here"]
theorem scLInner : FnScope NLInner ["_law_kind_here"] (fnScope sLInner) := ⟨rfl, rfl, rfl, by decide +kernel, rfl, by decide +kernel, by decide +kernel⟩
theorem c_inner (T : Tp mg) {f : Addr} {fd : FuncData} (D : Def K mg "_law_inner" sLInner f fd) (b : Binds K fd ["_law_kind_here"] []) : ∀ n : Nat, Cal P w K mg base n "_law_inner" (spInner K n) []
  | 0 => cal_no _ (fun vs H Q E ⟨v, k, _, _, h, _⟩ => absurd h (Nat.not_lt_zero _)) D b
  | n + 1 => by
    have c_LInner := c_inner T D b n
    refine cal0 D b .nil scLInner (fun vs H Q E h => ?_) (fun cdv A outer s H vs Q E hr h => ?_)
    · obtain ⟨v, k, rfl, _⟩ := h
      rfl
    · obtain ⟨v0, k, rfl, hd, hn, q⟩ := h
      refine ⟨_, (pss_cons (ps_if (pt_cmpR op_eq (pe_ix ix_tup (pv 0) pe_int (fun _ _ => rfl)) pe_str (nomark _))
      (pss_one (ps_ret (pe_c c_LInner hr (Nat.le_refl _) (by rfl) (pa_cons (pe_ix ix_tup (pv 0) pe_int (fun _ _ => rfl)) pa_nil))))
      pss_nil)
    (pss_one (ps_ret (pe_callTy call_list_of (by rfl) T.n_list (by decide +kernel) (pa_cons (pe_slice sl_tupA (pv 0) (po_some pe_int) po_none) pa_nil))))), ?_⟩
      obtain ⟨a, xs, rfl, hq, hx0, hxl, hxr, hx1, hx2⟩ := kd_at hd
      have tail : ∀ (ys : List V), xs.length ≠ 0 → xs.drop 1 = ys → ys = k.inner.map V.str → ∀ Q' : V → Hp → Prop, (∀ l H', H l = none → Same H H' → H' l = some (.lst (k.inner.map V.str)) → Q' (.ref l) H') →
          (rSlA K) (.ref a) (some 1) none H (fun x H1 => ∃ p ys, [x] = [V.ref p] ∧ (SqL K H1 p ys ∨ SqT K H1 p ys) ∧ ∀ l, H1 l = none → Q' (.ref l) (upd H1 l (.lst ys))) := by
        intro ys hx hy hk Q' q'
        have hs1 : HT.sIx xs.length 0 (some 1) = 1 := by
          rw [show HT.sIx xs.length 0 (some 1) = min 1 xs.length from HT.sIx_nat xs.length 0 1]
          omega
        refine ⟨a, xs, rfl, hq, fun h => ?_, fun _ p hp => ⟨p, cutV xs (some 1) none, rfl, .inr (SqT.of upd_same), fun l hl => ?_⟩⟩
        · rw [hs1] at h
          exact absurd h.1 (by decide)
        · have ec : cutV xs (some 1) none = k.inner.map V.str := by
            unfold cutV
            rw [hs1, HT.sIx_none, ← hk, ← hy]
            exact List.take_of_length_le (by rw [List.length_drop]; omega)
          refine q' l _ (free_back (Same.new hp) hl) ((Same.new hp).trans (Same.new hl)) ?_
          rw [upd_same, ec]
      refine ⟨_, rfl, a, xs, _, _, rfl, rfl, hq, atI_nat (j := 0) hx0, rfl, _, rfl, ite2 (fun e => ?_) (fun e => ?_)⟩
      · obtain ⟨k', rfl⟩ := word_list (V.str.inj (of_decide_eq_true e))
        obtain ⟨v', rfl, hd'⟩ := hxl k' rfl
        refine ⟨_, rfl, a, _, _, v', rfl, rfl, hq, atI_nat (j := 1) rfl, v', k', rfl, hd', Nat.lt_of_succ_lt_succ hn, fun l H' h1 h2 h3 => q l H' h1 h2 h3⟩
      · refine ⟨_, rfl, 1, rfl, ?_⟩
        cases k with
        | lst k' => exact absurd (decide_eq_true rfl) e
        | rcd z =>
          have hx := hxr z rfl
          subst hx
          exact tail _ (by simp) rfl rfl _ q
        | num =>
          have hx := hx1 rfl
          subst hx
          exact tail _ (by simp) rfl rfl _ q
        | tru =>
          have hx := hx2 rfl
          subst hx
          exact tail _ (by simp) rfl rfl _ q
end
end K11
set_option Elab.async false
set_option linter.all false
set_option maxRecDepth 100000
set_option maxHeartbeats 4000000
namespace K11
open PySem PySem.Spec PyProof.Rows L2
open C8 (Cal Def cal0 pe_c fnBody fnScope fnArgs)
section
variable {P : Program} {w : World} {K : PySem.W.Frag} {mg : Str → Option Value} {base : Heap}
abbrev abc : Str := "abcdefghijklmnopqrstuvwxyz"
theorem abc_tl : abc.cps.toList = List.range' 97 26 := by decide +kernel
theorem mem_abc (c : Nat) : decide (c ∈ abc.cps.toList) = low c := by
  rw [abc_tl, Bool.eq_iff_iff]
  unfold low
  rw [Bool.and_eq_true, decide_eq_true_eq, decide_eq_true_eq, decide_eq_true_eq, List.mem_range'_1]
  omega
def outs (z : Str) : List PyData := (z.cps.toList.filter fun c => !low c).map fun c => PyData.str ⟨#[c]⟩
/-- the data of the list that grows: signs that are no small letters -/
def outsN (l : List Nat) : List V := (l.filter fun c => !low c).map fun c => V.str ⟨#[c]⟩
def outsD (l : List Nat) : List PyData := (l.filter fun c => !low c).map fun c => PyData.str ⟨#[c]⟩
theorem outs_dp {H : Hp} : ∀ l : List Nat, DpAll K H (outsN l) (outsD l)
  | [] => .nil
  | c :: l => by
    unfold outsN outsD
    rw [List.filter_cons]
    by_cases h : (!low c) = true
    · rw [if_pos h]
      exact .cons (.str _) (outs_dp l)
    · rw [if_neg h]
      exact outs_dp l
theorem strOk_all {z : Str} (h : (PyData.str z).canLay0 = true) : ∀ c ∈ z.cps.toList, c < 0x110000 := by
  have h0 : z.cps.all (· < 0x110000) = true := by simpa only [PyData.canLay0, PyData.strOk] using h
  intro c hc
  have := (Array.all_eq_true_iff_forall_mem.mp h0) c (Array.mem_toList_iff.mp hc)
  simpa using this
theorem outs_lay : ∀ l : List Nat, (∀ c ∈ l, c < 0x110000) → PyData.canLayAll0 (outsD l) = true
  | [], _ => by simp [outsD, PyData.canLayAll0]
  | c :: l, h => by
    have ih := outs_lay l fun d hd => h d (List.mem_cons_of_mem _ hd)
    have hc := h c List.mem_cons_self
    unfold outsD at ih ⊢
    rw [List.filter_cons]
    by_cases hl : (!low c) = true
    · rw [if_pos hl, List.map_cons]
      simp only [PyData.canLayAll0, PyData.canLay0, PyData.strOk, Bool.and_eq_true]
      exact ⟨by simpa using hc, ih⟩
    · rw [if_neg hl]
      exact ih
theorem outs_depth : ∀ l : List Nat, PyData.depthAll (outsD l) = 0
  | [] => by simp [outsD, PyData.depthAll]
  | c :: l => by
    have ih := outs_depth l
    unfold outsD at ih ⊢
    rw [List.filter_cons]
    by_cases hl : (!low c) = true
    · rw [if_pos hl, List.map_cons]
      simp only [PyData.depthAll, PyData.depth, ih]
      rfl
    · rw [if_neg hl]
      exact ih
theorem outs_shaped {z : Str} (h : (PyData.str z).canLay0 = true) : SeqAt.shaped (.list (outsD z.cps.toList)) = true := by
  show ((PyData.list _).canLay0 && decide ((PyData.list _).depth ≤ 64)) = true
  rw [Bool.and_eq_true]
  refine ⟨by simp only [PyData.canLay0]; exact outs_lay _ (strOk_all h), decide_eq_true ?_⟩
  simp only [PyData.depth, outs_depth]
  decide
theorem outs_eqv (z : Str) : PyData.eqv (.list (outsD z.cps.toList)) (.list []) = z.cps.toList.all low := by
  simp only [PyData.eqv]
  unfold outsD
  induction z.cps.toList with
  | nil => simp [PyData.eqvAll]
  | cons c l ih =>
    rw [List.filter_cons, List.all_cons]
    by_cases hl : low c = true
    · rw [if_neg (by rw [hl]; decide), hl, Bool.true_and]
      exact ih
    · rw [eq_false_of_ne_true hl, if_pos (by decide), List.map_cons]
      simp [PyData.eqvAll]
theorem nil_shaped : SeqAt.shaped (.list []) = true := by
  show ((PyData.list []).canLay0 && decide ((PyData.list []).depth ≤ 64)) = true
  simp [PyData.canLay0, PyData.canLayAll0, PyData.depth, PyData.depthAll]
abbrev sLIsName : Stmt := topS 13
abbrev NLIsName : List Str := ["_law_thing", "_law_sign"]
theorem scLIsName : FnScope NLIsName ["_law_thing"] (fnScope sLIsName) := ⟨rfl, rfl, rfl, by decide +kernel, rfl, by decide +kernel, by decide +kernel⟩
/-- a look at data that may be laid -/
def spLook2 (K : PySem.W.Frag) (g : PyData → Bool) (n : Nat) : Sp := fun vs H Q _ => ∃ v d, vs = [v] ∧ Dp K H v d ∧ short d = true ∧ d.canLay0 = true ∧ d.depth < n ∧ n ≤ 64 ∧ ∀ H', Same H H' → Q (.bl (g d)) H'
theorem c_lisName (T : Tp mg) {f : Addr} {fd : FuncData} (D : Def K mg "_law_is_name" sLIsName f fd) (b : Binds K fd ["_law_thing"] []) : Cal P w K mg base 1 "_law_is_name" (spLook2 K nameB 64) [] := by
  refine cal0 D b .nil scLIsName (fun vs H Q E h => ?_) (fun cdv A outer s H vs Q E hr h => ?_)
  · obtain ⟨v, d, rfl, _⟩ := h
    rfl
  · obtain ⟨v, d, rfl, hd, hs, hcl, _, _, q⟩ := h
    have nd := scLIsName.nd
    refine ⟨_, (pss_cons (ps_if (PW.pt (pw_or (pt_not (pt_val (pe_callB call_isD (by rfl) T.n_isinstance (by decide +kernel) (pa_cons (pv 0) (pa_cons (pe_bltn (v := .ty "str") (by rfl) T.n_str (by decide +kernel) rfl) pa_nil))))) (pw_or (pt_cmpR op_eq (pv 0) pe_str (nomark _)) (pw_or (pt_cmpR op_gt (pe_callB call_len_str (by rfl) T.n_len (by decide +kernel) (pa_cons (pv 0) pa_nil)) pe_int (nomark _)) (pw_or1 (pt_cmpR op_in_seq (pv 0) (pe_lst (pa_cons pe_str (pa_cons pe_str (pa_cons pe_str (pa_cons pe_str pa_nil))))) (by rfl)))))))
      (pss_one (ps_ret pe_bl))
      pss_nil)
    (pss_one (ps_ret (pe_cmpR (op_eqD hr.units) (pe_lc (own := [("_law_sign", 1)]) (g := gName 1) (by rfl) nd (pi_str (pv 0)) (blkOk_by (own := [("_law_sign", 1)]) (N := NLIsName) (sc := fnScope sLIsName) (by decide +kernel)) (fun _ _ _ _ _ => pg_name (i := 1) nd rfl (Or.inl rfl)) (fun _ _ _ _ _ => (pts_one (pt_cmpR op_notIn_sign (pv 1) pe_str rfl))) (fun _ _ _ _ _ => (pv 1))) (pe_lst pa_nil) (nomark _))))), ?_⟩
    refine ⟨_, rfl, v, d, "str", rfl, hd, by decide, _, rfl, ?_⟩
    cases hd with
    | str z =>
      have hz : z.length ≤ 1000 := of_decide_eq_true hs
      refine iteF ?_
      refine ⟨_, rfl, rfl, _, rfl, ite2 (fun e1 => ?_) (fun e1 => ?_)⟩
      · have e1' : z = "" := V.str.inj (of_decide_eq_true e1)
        subst e1'
        exact iteT (q H (Same.refl H))
      · have e1' : 1 ≤ z.length := by
          rcases Nat.lt_or_ge 0 z.length with h | h
          · exact h
          · exfalso
            apply e1
            rw [decide_eq_true_eq]
            have hn : z.cps.toList = [] := List.length_eq_zero_iff.mp (by rw [len_tl]; omega)
            exact congrArg V.str (TL.ext_tl (by show z.cps.toList = _; rw [hn]; rfl))
        refine ⟨_, rfl, z, rfl, by rw [sizeLine_eq]; omega, _, _, rfl, rfl, _, rfl, ite2 (fun e2 => ?_) (fun e2 => ?_)⟩
        · have e2' : (8 : Int) < z.length := of_decide_eq_true e2
          have e : nameB (.str z) = false := by
            show nameS z = false
            unfold nameS
            rw [decide_eq_false (show ¬ z.length ≤ 8 by omega), Bool.and_false, Bool.false_and]
          exact iteT (e ▸ q H (Same.refl H))
        · have e2' : ¬ (8 : Int) < z.length := fun h => e2 (decide_eq_true h)
          refine ⟨_, rfl, (by show 4 ≤ sizeLine; decide), fun l hl => ?_⟩
          refine ⟨l, _, rfl, .inl (SqL.of upd_same), rfl, rfl, _, rfl, ?_⟩
          show if (keptS z) = true then _ else _
          have e : nameB (.str z) = (z.cps.toList.all low && !keptS z) := by
            show nameS z = _
            unfold nameS
            rw [decide_eq_true e1', decide_eq_true (show z.length ≤ 8 by omega)]
            rfl
          have sl : Same H (upd H l (.lst [.str "number", .str "truth", .str "yes", .str "no"])) := Same.new hl
          refine ite2 (fun e3 => ?_) (fun e3 => ?_)
          · have q' := q _ sl
            rw [e, e3, Bool.not_true, Bool.and_false] at q'
            exact q'
          · have e3' : keptS z = false := eq_false_of_ne_true e3
            refine ⟨_, rfl, z, rfl, fun D hD => ?_⟩
            refine lc_str (z := z) (fun i H' => Same H H' ∧ H' D = some (.lst (outsN (z.cps.toList.take i)))) ⟨sl.trans (Same.new hD), upd_same⟩ (fun i c H' hc hW => ?_) (fun H' hW => ?_)
            · obtain ⟨sm, hDl⟩ := hW
              refine ⟨rfl, _, rfl, c, abc, rfl, rfl, _, rfl, ?_⟩
              rw [mem_abc]
              have et : z.cps.toList.take (i + 1) = z.cps.toList.take i ++ [c] := by
                rw [List.take_add_one, hc]
                rfl
              refine ite2 (fun e4 => ?_) (fun e4 => ?_)
              · refine ⟨_, rfl, _, hDl, ?_, ?_, ?_⟩
                · refine Nat.lt_of_le_of_lt (Nat.le_trans (by rw [outsN, List.length_map]; exact List.length_filter_le _ _) ?_) (show 1000 < sizeLine by decide)
                  rw [List.length_take, len_tl]
                  omega
                · exact fun b o hb => by
                    rw [upd_ne (ne_of_none (sm b o hb |> fun x => hb) (sl.free hD))]
                    exact sm b o hb
                · rw [upd_same, et]
                  unfold outsN
                  rw [List.filter_append, List.map_append, List.filter_cons, if_pos e4]
                  rfl
              · refine ⟨sm, ?_⟩
                rw [hDl, et]
                unfold outsN
                rw [List.filter_append, List.map_append, List.filter_cons, if_neg e4]
                simp
            · obtain ⟨sm, hDl⟩ := hW
              rw [List.take_of_length_le (Nat.le_refl _)] at hDl
              refine ⟨(by show 0 ≤ sizeLine; decide), fun l2 hl2 => ?_⟩
              refine ⟨.list (outsD z.cps.toList), .list [], .lst (SqL.of ((Same.new hl2) _ _ hDl)) (outs_dp _), Dp.newL0 hl2 .nil, outs_shaped hcl, nil_shaped, ?_⟩
              rw [outs_eqv]
              have q' := q _ (sm.trans (Same.new (o := .lst []) hl2))
              rw [e, e3'] at q'
              simpa using q'
    | _ => exact iteT (q H (Same.refl H))
end
end K11
set_option Elab.async false
set_option linter.all false
set_option maxRecDepth 100000
set_option maxHeartbeats 4000000
namespace K11
open PySem PySem.Spec PyProof.Rows L2
open C8 (Cal Def cal0 pe_c fnBody fnScope fnArgs)
section
variable {P : Program} {w : World} {K : PySem.W.Frag} {mg : Str → Option Value} {base : Heap}
def strB (w : Str) : PyData → Bool
  | .str u => u == w
  | _ => false
theorem eqv_strB (d : PyData) (w : Str) : PyData.eqv d (.str w) = strB w d := by
  cases d <;> simp [PyData.eqv, strB]
theorem eqv_strB2 (d : PyData) (w : Str) : PyData.eqv (.str w) d = strB w d := by
  cases d <;> simp [PyData.eqv, strB]
  rw [Bool.eq_iff_iff]
  simp only [beq_iff_eq]
  exact ⟨fun h => h.symm, fun h => h.symm⟩
theorem eqv_tup1 (a b : PyData) : PyData.eqv (.tuple [a]) (.tuple [b]) = PyData.eqv a b := by
  rw [PyData.eqv, PyData.eqvAll, PyData.eqvAll, Bool.and_true]
theorem shaped_str {w : Str} (h : (PyData.str w).canLay0 = true) : SeqAt.shaped (.str w) = true := by
  show ((PyData.str w).canLay0 && decide ((PyData.str w).depth ≤ 64)) = true
  rw [h]
  simp [PyData.depth]
theorem shaped_of {d : PyData} (h : d.canLay0 = true) (n : d.depth ≤ 64) : SeqAt.shaped d = true := by
  show (d.canLay0 && decide (d.depth ≤ 64)) = true
  rw [h, decide_eq_true n]
  rfl
theorem lay_two {x y : PyData} (h : (PyData.tuple [x, y]).canLay0 = true) : x.canLay0 = true ∧ y.canLay0 = true := by
  simpa [PyData.canLay0, PyData.canLayAll0] using h
theorem depth_two (x y : PyData) : (PyData.tuple [x, y]).depth = max x.depth y.depth + 1 := by
  simp [PyData.depth, PyData.depthAll]
theorem kindB_one1 (d1 : PyData) : kindB (.tuple [d1]) = (strB "number" d1 || strB "truth" d1) := by
  cases d1 <;> simp [kindB, strB]
theorem kindB_two (x y : PyData) : kindB (.tuple [x, y]) = if strB "list" x then kindB y else (strB "record" x && nameB y) := by
  cases x <;> simp [kindB, strB]
theorem kindB_len (ds : List PyData) (h1 : ds.length ≠ 1) (h2 : ds.length ≠ 2) : kindB (.tuple ds) = false := by
  refine kindB_one ds h1 (pairB_two h2) (pairB_two h2)
theorem lay_lit (w : Str) (h : (PyData.str w).canLay0 = true) : (PyData.str w).canLay0 = true := h
abbrev sLIsKind : Stmt := topS 14
abbrev NLIsKind : List Str := ["_law_thing"]
theorem scLIsKind : FnScope NLIsKind ["_law_thing"] (fnScope sLIsKind) := ⟨rfl, rfl, rfl, by decide +kernel, rfl, by decide +kernel, by decide +kernel⟩
theorem two_lit_shaped : SeqAt.shaped (.list [.tuple [.str "number"], .tuple [.str "truth"]]) = true := by decide +kernel
theorem c_lisKind (T : Tp mg) (c_LIsName : Cal P w K mg base 1 "_law_is_name" (spLook2 K nameB 64) []) {f : Addr} {fd : FuncData} (D : Def K mg "_law_is_kind" sLIsKind f fd) (b : Binds K fd ["_law_thing"] []) :
    ∀ n : Nat, Cal P w K mg base (1 + n) "_law_is_kind" (spLook2 K kindB n) []
  | 0 => cal_no _ (fun vs H Q E ⟨v, d, _, _, _, _, h, _⟩ => absurd h (Nat.not_lt_zero _)) D b
  | n + 1 => by
    have c_LIsKind := c_lisKind T c_LIsName D b n
    refine cal0 D b .nil scLIsKind (fun vs H Q E h => ?_) (fun cdv A outer s H vs Q E hr h => ?_)
    · obtain ⟨v, d, rfl, _⟩ := h
      rfl
    · obtain ⟨v, d, rfl, hd, hs, hcl, hdep, hn, q⟩ := h
      have nd := scLIsKind.nd
      have hr := (show Room (1 + n) _ from hr)
      refine ⟨_, (pss_cons (ps_if (PW.pt (pw_or (pt_not (pt_val (pe_callB call_isD (by rfl) T.n_isinstance (by decide +kernel) (pa_cons (pv 0) (pa_cons (pe_bltn (v := .ty "tuple") (by rfl) T.n_tuple (by decide +kernel) rfl) pa_nil))))) (pw_or1 (pt_cmpR op_notIn_seq (pe_callB call_len_seq (by rfl) T.n_len (by decide +kernel) (pa_cons (pv 0) pa_nil)) (pe_lst (pa_cons pe_int (pa_cons pe_int pa_nil))) (by rfl)))))
      (pss_one (ps_ret pe_bl))
      pss_nil)
    (pss_cons (ps_if (pt_cmpR op_eq (pe_callB call_len_seq (by rfl) T.n_len (by decide +kernel) (pa_cons (pv 0) pa_nil)) pe_int (nomark _))
      (pss_one (ps_ret (pe_cmpR (op_inD (hin_of hr)) (pv 0) (pe_lst (pa_cons (pe_tup (pa_cons pe_str pa_nil)) (pa_cons (pe_tup (pa_cons pe_str pa_nil)) pa_nil))) (by rfl))))
      pss_nil)
    (pss_cons (ps_if (pt_cmpR (op_eqD hr.units) (pe_ix ix_tup (pv 0) pe_int (fun _ _ => rfl)) pe_str (nomark _))
      (pss_one (ps_ret (pe_c c_LIsKind hr (Nat.le_refl _) (by rfl) (pa_cons (pe_ix ix_tup (pv 0) pe_int (fun _ _ => rfl)) pa_nil))))
      pss_nil)
    (pss_one (ps_ret (pe_and (pe_cmpR (op_eqD hr.units) (pe_ix ix_tup (pv 0) pe_int (fun _ _ => rfl)) pe_str (nomark _)) (pe_one (pe_c c_LIsName hr (by omega) (by rfl) (pa_cons (pe_ix ix_tup (pv 0) pe_int (fun _ _ => rfl)) pa_nil))))))))), ?_⟩
      refine ⟨_, rfl, v, d, "tuple", rfl, hd, by decide, _, rfl, ?_⟩
      have hsh := shaped_of hcl (show d.depth ≤ 64 by omega)
      cases d with
      | tuple ds =>
        refine iteF ?_
        cases hd with
        | @tup a xs _ hq ha =>
          have hlen := ha.len
          refine ⟨_, rfl, a, xs, rfl, .inr hq, (by show 2 ≤ sizeLine; decide), fun l hl => ?_⟩
          have sl : Same H (upd H l (.lst [.int 1, .int 2])) := Same.new hl
          refine ⟨l, _, rfl, .inl (SqL.of upd_same), rfl, rfl, _, rfl, ?_⟩
          show if (!(((1 : Int) == (xs.length : Int)) || (((2 : Int) == (xs.length : Int)) || false))) = true then _ else _
          by_cases h1 : ds.length = 1
          · obtain ⟨d1, rfl⟩ := one_of h1
            obtain ⟨u0, rfl, g0⟩ := ha.one
            refine iteF ?_
            refine ⟨_, rfl, a, _, rfl, .inr (sqT_mono sl hq), rfl, _, rfl, iteT' (decide_eq_true rfl) ?_⟩
            refine ⟨_, rfl, (by show 1 ≤ sizeLine; decide), fun t1 h1 => ⟨(by show 1 ≤ sizeLine; decide), fun t2 h2 => ⟨(by show 2 ≤ sizeLine; decide), fun l2 hl2 => ?_⟩⟩⟩
            have s3 := (Same.new (o := .tup [.str "number"]) h1).trans ((Same.new (o := .tup [.str "truth"]) h2).trans (Same.new (o := .lst [.ref t1, .ref t2]) hl2))
            refine ⟨.tuple [d1], [.tuple [.str "number"], .tuple [.str "truth"]], .tup (sqT_mono s3 (sqT_mono sl hq)) (.cons ((g0.mono sl).mono s3) .nil), ?_, hsh, two_lit_shaped, ?_⟩
            · exact Dp.newL0 hl2 (.cons ((Dp.newT0 h1 (.cons (.str _) .nil)).mono (Same.new h2)) (.cons (Dp.newT0 h2 (.cons (.str _) .nil)) .nil))
            · have q' := q _ (sl.trans s3)
              rw [kindB_one1] at q'
              have ee : ([PyData.tuple [.str "number"], PyData.tuple [.str "truth"]].any fun z => PyData.eqv z (.tuple [d1])) = (strB "number" d1 || strB "truth" d1) := by
                rw [List.any_cons, List.any_cons, List.any_nil, eqv_tup1, eqv_tup1, eqv_strB2, eqv_strB2, Bool.or_false]
              rw [ee]
              exact q'
          · by_cases h2 : ds.length = 2
            · obtain ⟨d0, d1, rfl⟩ := two_of h2
              obtain ⟨u0, u1, rfl, g0, g1⟩ := ha.two
              refine iteF ?_
              refine ⟨_, rfl, a, _, rfl, .inr (sqT_mono sl hq), rfl, _, rfl, iteF' (decide_eq_false (fun e => by have := V.int.inj e; simp at this)) ?_⟩
              have hc2 := lay_two hcl
              have hdd := depth_two d0 d1
              have hs2 := short_two hs
              refine ⟨_, rfl, a, _, _, u0, rfl, rfl, sqT_mono sl hq, atI_nat (j := 0) rfl, d0, .str "list", g0.mono sl, .str _, shaped_of hc2.1 (by omega), by decide +kernel, _, rfl, ?_⟩
              rw [eqv_strB]
              have q1 := fun H' s' => q H' s'
              rw [kindB_two] at q1
              refine ite2 (fun e => ?_) (fun e => ?_)
              · refine ⟨_, rfl, a, _, _, u1, rfl, rfl, sqT_mono sl hq, atI_nat (j := 1) rfl, u1, d1, rfl, g1.mono sl, hs2.2, hc2.2, by omega, by omega, fun H' s' => ?_⟩
                have q' := q1 H' (sl.trans s')
                rw [if_pos e] at q'
                exact q'
              · refine ⟨_, rfl, a, _, _, u0, rfl, rfl, sqT_mono sl hq, atI_nat (j := 0) rfl, d0, .str "record", g0.mono sl, .str _, shaped_of hc2.1 (by omega), by decide +kernel, _, rfl, ?_⟩
                rw [eqv_strB]
                refine ite2 (fun e3 => ?_) (fun e3 => ?_)
                · refine ⟨_, rfl, a, _, _, u1, rfl, rfl, sqT_mono sl hq, atI_nat (j := 1) rfl, u1, d1, rfl, g1.mono sl, hs2.2, hc2.2, by omega, by decide, fun H' s' => ?_⟩
                  have q' := q1 H' (sl.trans s')
                  rw [if_neg e, e3, Bool.true_and] at q'
                  exact q'
                · have q' := q1 _ sl
                  rw [if_neg e, eq_false_of_ne_true e3, Bool.false_and] at q'
                  exact q'
            · have e1 : ((1 : Int) == (xs.length : Int)) = false := beq_eq_false_iff_ne.mpr (by omega)
              have e2 : ((2 : Int) == (xs.length : Int)) = false := beq_eq_false_iff_ne.mpr (by omega)
              rw [e1, e2]
              have q' := q _ sl
              rw [kindB_len ds h1 h2] at q'
              exact iteT q'
      | _ =>
        have q' := q H (Same.refl H)
        rw [kindB_not rfl] at q'
        exact iteT q'
end
end K11
set_option Elab.async false
set_option linter.all false
set_option maxRecDepth 100000
set_option maxHeartbeats 4000000
namespace K11
open PySem PySem.Spec PyProof.Rows L2
open C8 (Cal Def cal0 pe_c fnBody fnScope fnArgs)
/-- small data: n deep, m heavy -/
structure Ok (n m : Nat) (d : PyData) : Prop where
  lay : d.canLay0 = true
  dep : d.depth ≤ n
  wt : d.weight ≤ m
  sh : short d = true
  ish : d.intsShort 13 = true
  shw : d.showable = true
structure OkAll (n m : Nat) (ds : List PyData) : Prop where
  lay : PyData.canLayAll0 ds = true
  dep : PyData.depthAll ds ≤ n
  wt : PyData.weightAll ds ≤ m
  sh : shortAll ds = true
  ish : PyData.intsShortAll 13 ds = true
  shw : PyData.showableAll ds = true
theorem Ok.mono {n m n' m' : Nat} {d : PyData} (h : Ok n m d) (hn : n ≤ n') (hm : m ≤ m') : Ok n' m' d := ⟨h.lay, Nat.le_trans h.dep hn, Nat.le_trans h.wt hm, h.sh, h.ish, h.shw⟩
theorem OkAll.nil {n m : Nat} : OkAll n m [] := ⟨by simp [PyData.canLayAll0], by simp [PyData.depthAll], by simp [PyData.weightAll], by simp [shortAll], by simp [PyData.intsShortAll], by simp [PyData.showableAll]⟩
theorem OkAll.cons {n a b : Nat} {d : PyData} {ds : List PyData} (h : Ok n a d) (t : OkAll n b ds) : OkAll n (a + 1 + b) (d :: ds) :=
  ⟨by simp only [PyData.canLayAll0, h.lay, t.lay, Bool.and_self], by simp only [PyData.depthAll]; exact Nat.max_le.mpr ⟨h.dep, t.dep⟩, by simp only [PyData.weightAll]; have := h.wt; have := t.wt; omega,
   by simp only [shortAll, h.sh, t.sh, Bool.and_self], by simp only [PyData.intsShortAll, h.ish, t.ish, Bool.and_self], by simp only [PyData.showableAll, h.shw, t.shw, Bool.and_self]⟩
theorem Ok.tup {n m : Nat} {ds : List PyData} (h : OkAll n m ds) (hl : ds.length ≤ 1000) : Ok (n + 1) m (.tuple ds) :=
  ⟨by simp only [PyData.canLay0, h.lay], by simp only [PyData.depth]; have := h.dep; omega, by simp only [PyData.weight]; exact h.wt, by simp only [short, h.sh, decide_eq_true hl, Bool.and_self], by simp only [PyData.intsShort, h.ish], by simp only [PyData.showable, h.shw]⟩
theorem Ok.lst {n m : Nat} {ds : List PyData} (h : OkAll n m ds) (hl : ds.length ≤ 1000) : Ok (n + 1) m (.list ds) :=
  ⟨by simp only [PyData.canLay0, h.lay], by simp only [PyData.depth]; have := h.dep; omega, by simp only [PyData.weight]; exact h.wt, by simp only [short, h.sh, decide_eq_true hl, Bool.and_self], by simp only [PyData.intsShort, h.ish], by simp only [PyData.showable, h.shw]⟩
theorem OkAll.app {n a b : Nat} : ∀ {ds es : List PyData}, OkAll n a ds → OkAll n b es → OkAll n (a + b) (ds ++ es)
  | [], es, _, t => ⟨t.lay, t.dep, Nat.le_trans t.wt (Nat.le_add_left _ _), t.sh, t.ish, t.shw⟩
  | d :: ds, es, h, t => by
    have hl : d.canLay0 = true ∧ PyData.canLayAll0 ds = true := by simpa [PyData.canLayAll0] using h.lay
    have hd : max d.depth (PyData.depthAll ds) ≤ n := by simpa only [PyData.depthAll] using h.dep
    have hw : d.weight + 1 + PyData.weightAll ds ≤ a := by simpa only [PyData.weightAll] using h.wt
    have hs : short d = true ∧ shortAll ds = true := by simpa [shortAll] using h.sh
    have hi : d.intsShort 13 = true ∧ PyData.intsShortAll 13 ds = true := by simpa [PyData.intsShortAll] using h.ish
    have hv : d.showable = true ∧ PyData.showableAll ds = true := by simpa [PyData.showableAll] using h.shw
    have h1 : Ok n d.weight d := ⟨hl.1, Nat.le_trans (Nat.le_max_left _ _) hd, Nat.le_refl _, hs.1, hi.1, hv.1⟩
    have h2 : OkAll n (a - d.weight - 1) ds := ⟨hl.2, Nat.le_trans (Nat.le_max_right _ _) hd, by omega, hs.2, hi.2, hv.2⟩
    have h3 := OkAll.cons h1 (OkAll.app h2 t)
    exact ⟨h3.lay, h3.dep, Nat.le_trans h3.wt (by omega), h3.sh, h3.ish, h3.shw⟩
theorem OkAll.at {n m : Nat} : ∀ {ds : List PyData} {i : Nat} {d : PyData}, OkAll n m ds → ds[i]? = some d → Ok n m d
  | [], i, d, _, e => by simp at e
  | d :: ds, 0, d', h, e => by
    simp at e
    subst e
    have hl : d.canLay0 = true ∧ PyData.canLayAll0 ds = true := by simpa [PyData.canLayAll0] using h.lay
    have hd : max d.depth (PyData.depthAll ds) ≤ n := by simpa only [PyData.depthAll] using h.dep
    have hw : d.weight + 1 + PyData.weightAll ds ≤ m := by simpa only [PyData.weightAll] using h.wt
    have hs : short d = true ∧ shortAll ds = true := by simpa [shortAll] using h.sh
    have hi : d.intsShort 13 = true ∧ PyData.intsShortAll 13 ds = true := by simpa [PyData.intsShortAll] using h.ish
    have hv : d.showable = true ∧ PyData.showableAll ds = true := by simpa [PyData.showableAll] using h.shw
    exact ⟨hl.1, Nat.le_trans (Nat.le_max_left _ _) hd, by omega, hs.1, hi.1, hv.1⟩
  | d :: ds, i + 1, d', h, e => by
    have hl : d.canLay0 = true ∧ PyData.canLayAll0 ds = true := by simpa [PyData.canLayAll0] using h.lay
    have hd : max d.depth (PyData.depthAll ds) ≤ n := by simpa only [PyData.depthAll] using h.dep
    have hw : d.weight + 1 + PyData.weightAll ds ≤ m := by simpa only [PyData.weightAll] using h.wt
    have hs : short d = true ∧ shortAll ds = true := by simpa [shortAll] using h.sh
    have hi : d.intsShort 13 = true ∧ PyData.intsShortAll 13 ds = true := by simpa [PyData.intsShortAll] using h.ish
    have hv : d.showable = true ∧ PyData.showableAll ds = true := by simpa [PyData.showableAll] using h.shw
    have h2 : OkAll n m ds := ⟨hl.2, Nat.le_trans (Nat.le_max_right _ _) hd, by omega, hs.2, hi.2, hv.2⟩
    exact OkAll.at (i := i) h2 (by simpa using e)
theorem Ok.str {n m : Nat} {z : Str} (hl : z.length ≤ m) (hm : z.length ≤ 1000) (hc : ∀ c ∈ z.cps.toList, c < 128) : Ok n m (.str z) := by
  refine ⟨?_, by simp [PyData.depth], by simp only [PyData.weight]; exact hl, by simp [short, hm], by simp [PyData.intsShort], by simp [PyData.showable]⟩
  simp only [PyData.canLay0, PyData.strOk]
  rw [← Array.all_toList, List.all_eq_true]
  intro c h
  have := hc c h
  exact decide_eq_true (by omega)
theorem Ok.none {n m : Nat} : Ok n m .none := ⟨rfl, by simp [PyData.depth], by simp [PyData.weight], rfl, rfl, rfl⟩
theorem Ok.bool {n m : Nat} (b : Bool) : Ok n m (.bool b) := ⟨rfl, by simp [PyData.depth], by simp [PyData.weight], rfl, rfl, rfl⟩
theorem Ok.seven {n m : Nat} (h : 3 ≤ m) : Ok n m (.int 7) := ⟨rfl, by simp [PyData.depth], Nat.le_trans (by decide +kernel) h, rfl, by decide +kernel, by decide +kernel⟩
theorem Ok.shownB {n m : Nat} {d : PyData} (h : Ok n m d) (hn : n ≤ 64) (hm : m ≤ 1000000) : shownB d := by
  have hd := h.dep
  have hw := h.wt
  have hl : PyData.layable0 d = true := by
    show (PyData.canLay0 d && decide (d.depth ≤ 64) && decide (d.weight ≤ 2 ^ 20)) = true
    rw [h.lay, decide_eq_true (show d.depth ≤ 64 by omega), decide_eq_true (show d.weight ≤ 2 ^ 20 by omega)]
    rfl
  exact ⟨h.shw, shaped_of h.lay (by omega), PyData.shown_fits_of_layable0 (B := 13) (by decide) (by decide) hl h.ish⟩
def asc (z : Str) : Bool := z.cps.toList.all fun c => decide (c < 128)
theorem asc_of {z : Str} (h : asc z = true) : ∀ c ∈ z.cps.toList, c < 128 := fun c hc => of_decide_eq_true (List.all_eq_true.mp h c hc)
theorem name_len {z : Str} (h : nameS z = true) : 1 ≤ z.length ∧ z.length ≤ 8 := by
  unfold nameS at h
  simp only [Bool.and_eq_true, decide_eq_true_eq] at h
  exact h.1
theorem name_asc {z : Str} (h : nameS z = true) : ∀ c ∈ z.cps.toList, c < 128 := fun c hc => by
  unfold nameS at h
  simp only [Bool.and_eq_true] at h
  exact low128 (List.all_eq_true.mp h.2.1 c hc)
theorem up_ok {n m : Nat} {z : Str} (hl : z.length ≤ m) (hm : z.length ≤ 1000) (hc : ∀ c ∈ z.cps.toList, c < 128) : Ok n m (.str (PySem.Txt.upper z)) := by
  have e := PyProof.Rows.upper_ascii hc
  refine .str ?_ ?_ ?_
  · rw [e]; show (z.cps.map _).size ≤ m; rw [Array.size_map]; exact hl
  · rw [e]; show (z.cps.map _).size ≤ 1000; rw [Array.size_map]; exact hm
  · rw [e]
    intro c h
    have h' : c ∈ (z.cps.map PyProof.Rows.up1).toList := h
    rw [Array.toList_map, List.mem_map] at h'
    obtain ⟨d, hd, rfl⟩ := h'
    have := hc d hd
    unfold PyProof.Rows.up1
    split <;> omega
theorem cat_ok {n m : Nat} {x y : Str} (hl : x.length + y.length ≤ m) (hm : x.length + y.length ≤ 1000) (hx : ∀ c ∈ x.cps.toList, c < 128) (hy : ∀ c ∈ y.cps.toList, c < 128) : Ok n m (.str (x ++ y)) := by
  have e : (x ++ y).length = x.length + y.length := by rw [← len_tl, tl_app, List.length_append, len_tl, len_tl]
  refine .str (by omega) (by omega) fun c hc => ?_
  rw [tl_app, List.mem_append] at hc
  exact hc.elim (hx c) (hy c)
def Kd.els : Kd → List PyData
  | .num => [.str "number"]
  | .tru => [.str "truth"]
  | .rcd z => [.str "record", .str z]
  | .lst k => [.str "list", k.d]
theorem kd_d (k : Kd) : k.d = .tuple k.els := by cases k <;> simp [Kd.d, Kd.els]
theorem lit_ok {n m : Nat} {z : Str} (h : asc z = true) (hl : z.length ≤ 1000) (hm : z.length ≤ m) : Ok n m (.str z) := .str hm hl (asc_of h)
theorem els_ok : ∀ {k : Kd}, k.ok → OkAll k.deep (16 + 6 * k.deep) k.els
  | .num, _ => (OkAll.cons (n := 0) (a := 6) (b := 9) (lit_ok (by decide +kernel) (by decide) (by decide)) .nil)
  | .tru, _ => (OkAll.cons (n := 0) (a := 6) (b := 9) (lit_ok (by decide +kernel) (by decide) (by decide)) .nil)
  | .rcd z, h => (OkAll.cons (n := 0) (a := 6) (b := 9) (lit_ok (by decide +kernel) (by decide) (by decide)) (OkAll.cons (a := 8) (b := 0) (.str (name_len h).2 (by have := (name_len h).2; omega) (name_asc h)) .nil))
  | .lst k, h => by
    have ih := els_ok (k := k) h
    have hk : Ok (k.deep + 1) (16 + 6 * k.deep) k.d := by
      rw [kd_d]
      exact .tup ih (by cases k <;> simp [Kd.els])
    have c := OkAll.cons (n := k.deep + 1) (a := 4) (lit_ok (z := "list") (by decide +kernel) (by decide) (by decide)) (OkAll.cons (b := 0) hk .nil)
    have e : 4 + 1 + (16 + 6 * k.deep + 1 + 0) = 16 + 6 * (k.deep + 1) := by omega
    rw [e] at c
    exact c
theorem els_len (k : Kd) : 1 ≤ k.els.length ∧ k.els.length ≤ 2 := by cases k <;> simp [Kd.els]
theorem kd_ok {k : Kd} (h : k.ok) (hd : k.deep ≤ 8) : Ok 9 64 k.d := by
  rw [kd_d]
  have := els_len k
  exact (Ok.tup (els_ok h) (by omega)).mono (by omega) (by omega)
end K11
set_option Elab.async false
set_option linter.all false
set_option maxRecDepth 100000
set_option maxHeartbeats 4000000
namespace K11
open PySem PySem.Spec PyProof.Rows L2
open C8 (Cal Def cal0 pe_c fnBody fnScope fnArgs)
theorem cut7 (z : Str) : PySem.Txt.slice z none (some 7) = SX.S (z.cps.toList.take 7) := by
  have h := SX.slice_to (a := z.cps.toList) (i := 7) (by decide)
  rw [SX.S_tl] at h
  exact h
theorem cut7_len (z : Str) : (PySem.Txt.slice z none (some 7)).length ≤ 7 := by
  rw [cut7, SX.S_len, List.length_take]
  omega
theorem cut7_asc {z : Str} (h : ∀ c ∈ z.cps.toList, c < 128) : ∀ c ∈ (PySem.Txt.slice z none (some 7)).cps.toList, c < 128 := by
  rw [cut7]
  intro c hc
  exact h c (List.mem_of_mem_take hc)
/-- the item that a draw takes -/
theorem pick_at {α : Type} {l : List α} {r : Int} (h0 : 0 ≤ r) (h1 : r < (l.length : Nat)) : ∃ x, l[r.toNat]? = some x ∧ r = (r.toNat : Int) := ⟨_, List.getElem?_eq_getElem (show r.toNat < l.length by omega), by omega⟩
theorem atI_pick {xs : List V} {v : V} {r : Int} (e : r = (r.toNat : Int)) (h : xs[r.toNat]? = some v) : atI xs r = some v := by
  rw [e]
  exact atI_nat h
theorem atI_strs {l : List Str} {r : Int} (h0 : 0 ≤ r) (h1 : r < (l.length : Nat)) : ∃ z, z ∈ l ∧ atI (l.map V.str) r = some (.str z) := by
  obtain ⟨z, hz, e⟩ := pick_at h0 h1
  exact ⟨z, List.mem_of_getElem? hz, atI_pick e (by rw [List.getElem?_map, hz]; rfl)⟩
section
variable {P : Program} {w : World} {K : PySem.W.Frag} {mg : Str → Option Value} {base : Heap}
abbrev nmA (z : Str) : List V := [.str z, .str (PySem.Txt.upper z), .str (z ++ "abcdefgh"), .str "", .str (z ++ " "), .str (" " ++ z), .str (PySem.Txt.slice z none (some 7) ++ "1"), .str (PySem.Txt.slice z none (some 7) ++ "_")]
abbrev nmB (l1 t1 : Addr) (yn : Str) : List V := [.ref l1, .ref t1, .non, .int 7, .bl true, .str "number", .str "truth", .str yn]
abbrev sLNamed : Stmt := topS 16
abbrev NLNamed : List Str := ["_law_pot_here", "_law_name", "_law_some"]
theorem scLNamed : FnScope NLNamed ["_law_pot_here"] (fnScope sLNamed) := ⟨rfl, rfl, rfl, by decide +kernel, rfl, by decide +kernel, by decide +kernel⟩
def spDrawn (K : PySem.W.Frag) (n m : Nat) : Sp := fun vs H Q _ => ∃ (p : Addr) (x y : Int), vs = [.ref p] ∧ Pot H p x y ∧ ∀ v d H', Ok n m d → Dh K p H' v d → Going p H H' → Q v H'
theorem c_named (T : Tp mg) (c_LTake : Cal P w K mg base 1 "_law_take" spTake []) (c_LCalled : Cal P w K mg base 2 "_law_called" spCalled []) {f : Addr} {fd : FuncData} (D : Def K mg "_law_named" sLNamed f fd) (b : Binds K fd ["_law_pot_here"] []) :
    Cal P w K mg base 3 "_law_named" (spDrawn K 3 2000) [] := by
  refine cal0 D b .nil scLNamed (fun vs H Q E h => ?_) (fun cdv A outer s H vs Q E hr h => ?_)
  · obtain ⟨p, x, y, rfl, _⟩ := h
    rfl
  · obtain ⟨p, x, y, rfl, hp, q⟩ := h
    have nd := scLNamed.nd
    refine ⟨_, (pss_cons (ps_set (i := 1) nd rfl (.inl rfl) (pe_c c_LCalled hr (by decide) (by rfl) (pa_cons (pv 0) pa_nil)))
    (pss_cons (ps_set (i := 2) nd rfl (.inl rfl) (pe_lst (pa_cons (pv 1) (pa_cons (pe_m0 PySem.F.slot_str_upper PySem.F.type_str_upper mt_upper (pv 1)) (pa_cons (pe_op op_add_str (pv 1) pe_str) (pa_cons pe_str (pa_cons (pe_op op_add_str (pv 1) pe_str) (pa_cons (pe_op op_add_str pe_str (pv 1)) (pa_cons (pe_op op_add_str (pe_slice C8.sl_txt (pv 1) po_none (po_some pe_int)) pe_str) (pa_cons (pe_op op_add_str (pe_slice C8.sl_txt (pv 1) po_none (po_some pe_int)) pe_str) pa_nil))))))))))
    (pss_cons (ps_set (i := 2) nd rfl (.inl rfl) (pe_op op_cat (pv 2) (pe_lst (pa_cons (pe_lst (pa_cons (pv 1) pa_nil)) (pa_cons (pe_tup (pa_cons (pv 1) pa_nil)) (pa_cons pe_non (pa_cons pe_int (pa_cons pe_bl (pa_cons pe_str (pa_cons pe_str (pa_cons (pe_ix ix_list (pe_lst (pa_cons pe_str (pa_cons pe_str pa_nil))) (pe_c c_LTake hr (by decide) (by rfl) (pa_cons (pv 0) (pa_cons pe_int pa_nil))) (fun _ _ => rfl)) pa_nil)))))))))))
    (pss_one (ps_ret (pe_ix ix_list (pv 2) (pe_c c_LTake hr (by decide) (by rfl) (pa_cons (pv 0) (pa_cons (pe_callB call_len_seq (by rfl) T.n_len (by decide +kernel) (pa_cons (pv 2) pa_nil)) pa_nil))) (fun _ _ => rfl))))))), ?_⟩
    refine ⟨_, rfl, p, x, y, rfl, hp, fun z H1 hz g1 => ?_⟩
    have zl := name_len hz
    have za := name_asc hz
    have line := sizeLine_eq
    have c7 := cut7_len z
    have len8 : ("abcdefgh" : Str).length = 8 := by decide
    have len1 : (" " : Str).length = 1 := by decide
    have len2 : ("1" : Str).length = 1 := by decide
    have len3 : ("_" : Str).length = 1 := by decide
    refine ⟨_, rfl, _, rfl, ⟨z, rfl⟩, z, rfl, rfl, by omega, _, rfl, _, _, rfl, rfl, by omega, _, rfl, _, _, rfl, rfl, by omega, _, rfl, _, _, rfl, rfl, by omega, _, rfl, 7, rfl, z, rfl, by omega, _, _, rfl, rfl, by omega, _, rfl, 7, rfl, z, rfl, by omega, _, _, rfl, rfl, by omega, (by show 8 ≤ sizeLine; decide), fun l hl => ?_⟩
    have g2 := g1.new (o := .lst (nmA z)) hl
    refine ⟨_, rfl, _, rfl, (by show 1 ≤ sizeLine; decide), fun l1 h1 => ⟨_, rfl, (by show 1 ≤ sizeLine; decide), fun t1 ht1 => ⟨(by show 2 ≤ sizeLine; decide), fun l2 h2 => ?_⟩⟩⟩
    have g3 := g2.new (o := .lst [.str z]) h1
    have g4 := g3.new (o := .tup [.str z]) ht1
    have g5 := g4.new (o := .lst [.str "yes", .str "no"]) h2
    obtain ⟨x5, y5, hp5⟩ := g5.2
    refine ⟨_, rfl, p, x5, y5, 2, rfl, hp5, by decide, by decide, fun r x6 y6 r0 r1 hp6 => ?_⟩
    have g6 := g5.trans (going_pot (But.refl p _) hp6)
    have b6 := (But.refl p _ : But p (upd (upd (upd (upd H1 l (.lst (nmA z))) l1 (.lst [.str z])) t1 (.tup [.str z])) l2 (.lst [.str "yes", .str "no"])) _).pot (o := .lst [.int x6, .int y6])
    have nl2 := g4.ne h2
    obtain ⟨yn, hyn, hat⟩ := atI_strs (l := ["yes", "no"]) r0 r1
    have hynok : Ok 0 10 (.str yn) := by
      simp only [List.mem_cons, List.not_mem_nil, or_false] at hyn
      rcases hyn with rfl | rfl <;> exact lit_ok (by decide +kernel) (by decide) (by decide)
    refine ⟨l2, _, r, .str yn, rfl, rfl, SqL.of (b6 _ _ nl2 upd_same), hat, (by show 8 ≤ sizeLine; decide), fun l3 h3 => ?_⟩
    have nl := g1.ne hl
    have nl1 := g2.ne h1
    have nt1 := g3.ne ht1
    have b7 := But.new (p := p) (o := .lst (nmB l1 t1 yn)) h3
    have hlat := b7 _ _ nl (b6 _ _ nl ((But.new h2) _ _ nl ((But.new ht1) _ _ nl ((But.new (p := p) (o := .lst [.str z]) h1) _ _ nl upd_same))))
    have g7 := g6.new (o := .lst (nmB l1 t1 yn)) h3
    refine ⟨l, l3, _, _, rfl, rfl, hlat, upd_same, (by show 8 + 8 ≤ sizeLine; decide), fun l4 h4 => ?_⟩
    have g8 := g7.new (o := .lst ((nmA z) ++ (nmB l1 t1 yn))) h4
    have nl4 := g7.ne h4
    obtain ⟨x8, y8, hp8⟩ := g8.2
    refine ⟨_, rfl, _, rfl, _, rfl, l4, _, rfl, .inl (SqL.of upd_same), p, x8, y8, 16, rfl, hp8, by decide, by decide, fun r9 x9 y9 r90 r91 hp9 => ?_⟩
    have D1 : Dh K p _ (.ref l1) (.list [.str z]) := ((((Dp.newL h1 nl1 (.cons (.str z) .nil)).but (But.new ht1)).but (But.new h2)).but b6).but b7
    have D2 : Dh K p _ (.ref t1) (.tuple [.str z]) := (((Dp.newT ht1 nt1 (.cons (.str z) .nil)).but (But.new h2)).but b6).but b7
    have bL := (But.new (p := p) (o := .lst ((nmA z) ++ (nmB l1 t1 yn))) h4).pot (o := .lst [.int x9, .int y9])
    have DA : DhAll K p _ ((nmA z) ++ (nmB l1 t1 yn)) _ :=
      .cons (.str _) (.cons (.str _) (.cons (.str _) (.cons (.str _) (.cons (.str _) (.cons (.str _) (.cons (.str _) (.cons (.str _) (.cons (D1.but bL) (.cons (D2.but bL) (.cons .non (.cons (.int 7) (.cons (.bl true) (.cons (.str _) (.cons (.str _) (.cons (.str _) .nil)))))))))))))))
    have OK : OkAll 3 _ _ := OkAll.cons (n := 3) (a := 100) (Ok.str (z := z) (by omega) (by omega) za) (OkAll.cons (a := 100) (up_ok (z := z) (by omega) (by omega) za) (OkAll.cons (a := 100) (cat_ok (x := z) (y := "abcdefgh") (by omega) (by omega) za (asc_of (by decide +kernel)))
      (OkAll.cons (a := 100) (lit_ok (z := "") (by decide +kernel) (by decide) (by decide)) (OkAll.cons (a := 100) (cat_ok (x := z) (y := " ") (by omega) (by omega) za (asc_of (by decide +kernel))) (OkAll.cons (a := 100) (cat_ok (x := " ") (y := z) (by omega) (by omega) (asc_of (by decide +kernel)) za)
      (OkAll.cons (a := 100) (cat_ok (x := PySem.Txt.slice z none (some 7)) (y := "1") (by omega) (by omega) (cut7_asc za) (asc_of (by decide +kernel))) (OkAll.cons (a := 100) (cat_ok (x := PySem.Txt.slice z none (some 7)) (y := "_") (by omega) (by omega) (cut7_asc za) (asc_of (by decide +kernel)))
      (OkAll.cons (a := 100) ((Ok.lst (n := 0) (OkAll.cons (a := 8) (b := 0) (Ok.str (z := z) (by omega) (by omega) za) .nil) (by show 1 ≤ 1000; decide)).mono (by decide) (by decide)) (OkAll.cons (a := 100) ((Ok.tup (n := 0) (OkAll.cons (a := 8) (b := 0) (Ok.str (z := z) (by omega) (by omega) za) .nil) (by show 1 ≤ 1000; decide)).mono (by decide) (by decide))
      (OkAll.cons (a := 100) .none (OkAll.cons (a := 100) (.seven (by decide)) (OkAll.cons (a := 100) (.bool true) (OkAll.cons (a := 100) (lit_ok (z := "number") (by decide +kernel) (by decide) (by decide)) (OkAll.cons (a := 100) (lit_ok (z := "truth") (by decide +kernel) (by decide) (by decide)) (OkAll.cons (a := 100) (b := 0) (hynok.mono (by decide) (by decide)) .nil)))))))))))))))
    obtain ⟨dd, hdd, er⟩ := pick_at (l := [PyData.str z, .str (PySem.Txt.upper z), .str (z ++ "abcdefgh"), .str "", .str (z ++ " "), .str (" " ++ z), .str (PySem.Txt.slice z none (some 7) ++ "1"), .str (PySem.Txt.slice z none (some 7) ++ "_"), .list [.str z], .tuple [.str z], .none, .int 7, .bool true, .str "number", .str "truth", .str yn]) r90 r91
    obtain ⟨vv, hvv, hD⟩ := DA.get hdd
    refine ⟨l4, _, r9, vv, rfl, rfl, SqL.of (((But.refl p _).pot (o := .lst [.int x9, .int y9])) _ _ nl4 upd_same), atI_pick er hvv, ?_⟩
    exact q vv dd _ ((OK.at hdd).mono (Nat.le_refl _) (by decide)) hD (g8.trans (going_pot (But.refl p _) hp9))
end
end K11
set_option Elab.async false
set_option linter.all false
set_option maxRecDepth 100000
set_option maxHeartbeats 4000000
namespace K11
open PySem PySem.Spec PyProof.Rows L2
open C8 (Cal Def cal0 pe_c fnBody fnScope fnArgs)
section
variable {P : Program} {w : World} {K : PySem.W.Frag} {mg : Str → Option Value} {base : Heap}
abbrev rUp : V → List V → Hp → VK → Prop := fun x xs H Q => ∃ a, x = .str a ∧ xs = [] ∧ a.length ≤ 5592405 ∧ Q (.str (PySem.Txt.upper a)) H
theorem kd_els {H : Hp} {v : V} {k : Kd} (h : Dp K H v k.d) : ∃ a xs, v = .ref a ∧ SqT K H a xs ∧ DpAll K H xs k.els ∧ xs[0]? = some (.str k.word) ∧ 1 ≤ xs.length ∧ xs.length ≤ 2 := by
  rw [kd_d] at h
  cases h with
  | @tup a xs ds hq ha =>
    have hl := ha.len
    have he := els_len k
    refine ⟨a, xs, rfl, hq, ha, ?_, by omega, by omega⟩
    cases k with
    | num => obtain ⟨u, rfl, g⟩ := ha.one; cases g; rfl
    | tru => obtain ⟨u, rfl, g⟩ := ha.one; cases g; rfl
    | rcd z => obtain ⟨u, u2, rfl, g, g2⟩ := ha.two; cases g; rfl
    | lst k' => obtain ⟨u, u2, rfl, g, g2⟩ := ha.two; cases g; rfl
theorem DpAll.drop1 {H : Hp} : ∀ {vs : List V} {ds : List PyData}, DpAll K H vs ds → DpAll K H (vs.drop 1) (ds.drop 1)
  | _, _, .nil => .nil
  | _, _, .cons _ t => t
theorem word_ok (k : Kd) : asc k.word = true ∧ k.word.length ≤ 10 := by cases k <;> (simp only [Kd.word]; decide +kernel)
/-- (kind[0].upper(),) + kind[1:] -/
theorem arg_up {σ : L2.St} {p a : Addr} {xs : List V} {k : Kd} {H : Hp} {Q : VK} (hs : σ[1]? = some (some (.ref a))) (hp : H p ≠ none) (hq : SqT K H a xs) (ha : DhAll K p H xs k.els) (h0 : xs[0]? = some (.str k.word)) (h1 : 1 ≤ xs.length) (h2 : xs.length ≤ 2)
    (q : ∀ v H', Same H H' → Dh K p H' v (.tuple (.str (PySem.Txt.upper k.word) :: k.els.drop 1)) → Q v H') :
    tOp (rCatA K) (tTup (tCons (tM0 rUp (tOp (rIxT K) (tVar 1) (tC (.int 0)))) tNil)) (L2.tSl (rSlA K) (tVar 1) (tPart (tC (.int 1))) tNoPart) σ H Q := by
  have line := sizeLine_eq
  have wl := (word_ok k).2
  refine ⟨_, hs, a, xs, 0, .str k.word, rfl, rfl, hq, atI_nat (j := 0) h0, ⟨_, rfl⟩, k.word, rfl, rfl, by omega, (by show 1 ≤ sizeLine; decide), fun t ht => ?_⟩
  have nt : t ≠ p := fun e => hp (e ▸ ht)
  have s1 : Same H (upd H t (.tup [.str (PySem.Txt.upper k.word)])) := Same.new ht
  have hs1 : HT.sIx xs.length 0 (some 1) = 1 := by
    rw [show HT.sIx xs.length 0 (some 1) = min 1 xs.length from HT.sIx_nat xs.length 0 1]
    omega
  have ec : cutV xs (some 1) none = xs.drop 1 := by
    unfold cutV
    rw [hs1, HT.sIx_none]
    exact List.take_of_length_le (by rw [List.length_drop]; omega)
  refine ⟨_, hs, 1, rfl, a, xs, rfl, sqT_mono s1 hq, fun h => ?_, fun _ u hu => ?_⟩
  · rw [hs1] at h
    exact absurd h.1 (by decide)
  · have nu : u ≠ p := fun e => by
      subst e
      cases hh : H u with
      | none => exact hp hh
      | some o => rw [s1 _ _ hh] at hu; cases hu
    rw [ec]
    have s2 : Same _ (upd (upd H t (.tup [.str (PySem.Txt.upper k.word)])) u (.tup (xs.drop 1))) := Same.new hu
    have dT := Dp.newT (K := K) ht nt (.cons (.str (PySem.Txt.upper k.word)) .nil)
    refine ⟨t, u, _, _, rfl, rfl, sqT_mono s2 (SqT.of upd_same), SqT.of upd_same, (by show 1 + (xs.drop 1).length ≤ sizeLine; rw [List.length_drop]; omega), (fun e => nomatch e), fun _ hy => ?_, fun _ _ r hr => ?_⟩
    · have e0 : k.els.drop 1 = [] := by
        have := ha.len
        have l1 := congrArg List.length hy
        rw [List.length_drop] at l1
        exact List.drop_eq_nil_of_le (by simp at l1; omega)
      rw [e0] at q
      exact q _ _ (s1.trans s2) (dT.but (But.same s2))
    · have nr : r ≠ p := fun e => by
        subst e
        cases hh : H r with
        | none => exact hp hh
        | some o => rw [(s1.trans s2) _ _ hh] at hr; cases hr
      exact q _ _ ((s1.trans s2).trans (Same.new hr)) (Dp.newT hr nr (.cons (.str _) (DpAll.but (But.same (s1.trans s2)) (DpAll.drop1 ha))))
end
end K11
set_option Elab.async false
set_option linter.all false
set_option maxRecDepth 100000
set_option maxHeartbeats 4000000
namespace K11
open PySem PySem.Spec PyProof.Rows L2
open C8 (Cal Def cal0 pe_c fnBody fnScope fnArgs)
section
variable {P : Program} {w : World} {K : PySem.W.Frag} {mg : Str → Option Value} {base : Heap}
/-- a list at l of small data, made so far -/
structure Some_ (K : PySem.W.Frag) (p l : Addr) (H0 H : Hp) (v : V) (k : Kd) (m N : Nat) (vs : List V) (ds : List PyData) : Prop where
  at_ : H l = some (.lst vs)
  ne : l ≠ p
  dat : DhAll K p H vs ds
  ok : OkAll 11 m ds
  len : ds.length = N
  kd : Dh K p H v k.d
  go : Going p H0 H
theorem Some_.go_on {p l : Addr} {H0 H H' : Hp} {v : V} {k : Kd} {m N : Nat} {vs : List V} {ds : List PyData} (s : Some_ K p l H0 H v k m N vs ds) (g : Going p H H') : Some_ K p l H0 H' v k m N vs ds :=
  ⟨g.1 _ _ s.ne s.at_, s.ne, s.dat.but g.1, s.ok, s.len, s.kd.but g.1, s.go.trans g⟩
theorem going_new {p q : Addr} {H : Hp} {o : HO} {x y : Int} (hp : Pot H p x y) (hq : H q = none) : Going p H (upd H q o) := ⟨But.new hq, _, _, hp.new hq⟩
/-- xs + [..]: the list grown by new data -/
theorem Some_.grow {p l l2 l3 : Addr} {H0 H H2 : Hp} {v : V} {k : Kd} {m m2 N N2 : Nat} {vs us : List V} {ds es : List PyData} (s : Some_ K p l H0 H v k m N vs ds) (g : Going p H H2) (hl2 : H2 l2 = some (.lst us)) (du : DhAll K p H2 us es) (oe : OkAll 11 m2 es) (ne2 : es.length = N2)
    (hl3 : H2 l3 = none) : Some_ K p l3 H0 (upd H2 l3 (.lst (vs ++ us))) v k (m + m2) (N + N2) (vs ++ us) (ds ++ es) := by
  have s2 := s.go_on g
  have g3 := s2.go.new (o := .lst (vs ++ us)) hl3
  have b := But.new (p := p) (o := .lst (vs ++ us)) hl3
  exact ⟨upd_same, s2.go.ne hl3, (s2.dat.app du).but b, s2.ok.app oe, by rw [List.length_append, s2.len, ne2], s2.kd.but b, g3⟩
abbrev sLOther : Stmt := topS 15
abbrev NLOther : List Str := ["_law_pot_here", "_law_kind_here", "_law_name", "_law_some", "_law_bad"]
theorem scLOther : FnScope NLOther ["_law_pot_here", "_law_kind_here"] (fnScope sLOther) := ⟨rfl, rfl, rfl, by decide +kernel, rfl, by decide +kernel, by decide +kernel⟩
def spOther (K : PySem.W.Frag) : Sp := fun vs H Q _ => ∃ (p : Addr) (x y : Int) (v : V) (k : Kd), vs = [.ref p, v] ∧ Pot H p x y ∧ Dh K p H v k.d ∧ k.ok ∧ k.deep ≤ 8 ∧ ∀ v' d H', Ok 13 4000 d → Dh K p H' v' d → Going p H H' → Q v' H'
theorem c_other (T : Tp mg) (c_LTake : Cal P w K mg base 1 "_law_take" spTake []) (c_LCalled : Cal P w K mg base 2 "_law_called" spCalled []) {f : Addr} {fd : FuncData} (D : Def K mg "_law_other" sLOther f fd) (b : Binds K fd ["_law_pot_here", "_law_kind_here"] []) :
    Cal P w K mg base 3 "_law_other" (spOther K) [] := by
  refine cal0 D b .nil scLOther (fun vs H Q E h => ?_) (fun cdv A outer s H vs Q E hr h => ?_)
  · obtain ⟨p, x, y, v, k, rfl, _⟩ := h
    rfl
  · obtain ⟨p, x, y, v, k, rfl, hp, hk, hok, hdp, q⟩ := h
    have nd := scLOther.nd
    refine ⟨_, (pss_cons (ps_set (i := 2) nd rfl (.inl rfl) (pe_c c_LCalled hr (by decide) (by rfl) (pa_cons (pv 0) pa_nil)))
    (C8.pss_cut (ps_set (i := 3) nd rfl (.inl rfl) (pe_lst (pa_cons (pe_callTy call_list_of (by rfl) T.n_list (by decide +kernel) (pa_cons (pv 1) pa_nil)) (pa_cons (pe_op op_catA (pv 1) (pe_tup (pa_cons pe_str pa_nil))) (pa_cons (pe_op op_catA (pe_tup (pa_cons (pe_m0 PySem.F.slot_str_upper PySem.F.type_str_upper mt_upper (pe_ix ix_tup (pv 1) pe_int (fun _ _ => rfl))) pa_nil)) (pe_slice sl_tupA (pv 1) (po_some pe_int) po_none)) (pa_cons (pe_slice sl_tupA (pv 1) po_none (po_some pe_int)) (pa_cons (pe_tup (pa_cons pe_str pa_nil)) (pa_cons (pe_tup (pa_cons pe_str pa_nil)) (pa_cons (pv 2) pa_nil)))))))))
    (C8.pss_cut (ps_set (i := 3) nd rfl (.inl rfl) (pe_op op_cat (pv 3) (pe_lst (pa_cons (pe_tup (pa_cons pe_str (pa_cons (pe_m0 PySem.F.slot_str_upper PySem.F.type_str_upper mt_upper (pv 2)) pa_nil))) (pa_cons (pe_tup (pa_cons pe_str (pa_cons (pe_op op_add_str (pv 2) pe_str) pa_nil))) (pa_cons (pe_tup (pa_cons pe_str (pa_cons pe_str pa_nil))) (pa_cons (pe_tup (pa_cons pe_str (pa_cons (pe_ix ix_tup (pv 1) pe_int (fun _ _ => rfl)) pa_nil))) pa_nil)))))))
    (C8.pss_cut (ps_set (i := 3) nd rfl (.inl rfl) (pe_op op_cat (pv 3) (pe_lst (pa_cons (pe_tup (pa_cons pe_str (pa_cons (pe_ix ix_list (pe_lst (pa_cons pe_str (pa_cons pe_str (pa_cons pe_str (pa_cons pe_str pa_nil))))) (pe_c c_LTake hr (by decide) (by rfl) (pa_cons (pv 0) (pa_cons pe_int pa_nil))) (fun _ _ => rfl)) pa_nil))) (pa_cons (pe_tup (pa_cons pe_str (pa_cons (pv 1) pa_nil))) pa_nil)))))
    (C8.pss_cut (ps_set (i := 3) nd rfl (.inl rfl) (pe_op op_cat (pv 3) (pe_lst (pa_cons (pe_tup (pa_cons pe_str (pa_cons (pv 1) (pa_cons (pv 1) pa_nil)))) pa_nil))))
    (C8.pss_cut (ps_set (i := 3) nd rfl (.inl rfl) (pe_op op_cat (pv 3) (pe_lst (pa_cons (pe_ix ix_list (pe_lst (pa_cons pe_non (pa_cons pe_int (pa_cons pe_bl (pa_cons pe_str pa_nil))))) (pe_c c_LTake hr (by decide) (by rfl) (pa_cons (pv 0) (pa_cons pe_int pa_nil))) (fun _ _ => rfl)) (pa_cons (pe_tup (pa_cons pe_int (pa_cons (pv 1) pa_nil))) pa_nil)))))
    (C8.pss_cut (ps_set (i := 4) nd rfl (.inl rfl) (pe_ix ix_list (pv 3) (pe_c c_LTake hr (by decide) (by rfl) (pa_cons (pv 0) (pa_cons (pe_callB call_len_seq (by rfl) T.n_len (by decide +kernel) (pa_cons (pv 3) pa_nil)) pa_nil))) (fun _ _ => rfl)))
    (pss_one (ps_ret (pe_ix ix_list (pe_lst (pa_cons (pv 4) (pa_cons (pe_tup (pa_cons pe_str (pa_cons (pv 4) pa_nil))) (pa_cons (pe_tup (pa_cons pe_str (pa_cons (pe_tup (pa_cons pe_str (pa_cons (pv 4) pa_nil))) pa_nil))) pa_nil)))) (pe_c c_LTake hr (by decide) (by rfl) (pa_cons (pv 0) (pa_cons pe_int pa_nil))) (fun _ _ => rfl))))))))))), ?_⟩
    refine ⟨_, rfl, p, x, y, rfl, hp, fun z H1 hz g1 => ?_⟩
    have zl := name_len hz
    have za := name_asc hz
    have line := sizeLine_eq
    have hk1 : Dh K p H1 v k.d := hk.but g1.1
    have kok := kd_ok hok hdp
    have eok := (els_ok hok)
    -- the first seven
    refine ⟨fun σ' H' => ∃ l vs ds, σ' = [some (.ref p), some v, some (.str z), some (.ref l), none] ∧ Some_ K p l H H' v k 1000 7 vs ds, ?_, ?_⟩
    · obtain ⟨a, xs, rfl, hq, ha, h0, h1, h2⟩ := kd_els hk1
      have hq1 : SqT K H1 a xs := sqT_mono hid_in hq
      refine ⟨_, rfl, a, xs, rfl, .inr hq1, fun l0 hl0 => ?_⟩
      have g2 := g1.new (o := .lst xs) hl0
      have b2 := But.new (p := p) (o := .lst xs) hl0
      have n0 := g1.ne hl0
      refine ⟨_, rfl, (by show 1 ≤ sizeLine; decide), fun t1 ht1 => ?_⟩
      have g3 := g2.new (o := .tup [.str "x"]) ht1
      have b3 := But.new (p := p) (o := .tup [.str "x"]) ht1
      refine ⟨a, t1, xs, [.str "x"], rfl, rfl, sqT_mono ((Same.new hl0).trans (Same.new ht1)) hq1, SqT.of upd_same, (by show xs.length + 1 ≤ sizeLine; omega), (fun e => by rw [e] at h1; exact absurd h1 (by decide)), (fun _ e => nomatch e), fun _ _ r1 hr1 => ?_⟩
      have g4 := g3.new (o := .tup (xs ++ [.str "x"])) hr1
      have b4 := But.new (p := p) (o := .tup (xs ++ [.str "x"])) hr1
      have s4 := ((Same.new (o := .lst xs) hl0).trans (Same.new (o := .tup [.str "x"]) ht1)).trans (Same.new (o := .tup (xs ++ [.str "x"])) hr1)
      have D0 := Dp.newL (K := K) hl0 n0 ha
      have D1 := Dp.newT (K := K) hr1 (g3.ne hr1) ((ha.but (b2.trans b3)).app (.cons (.str "x") .nil))
      obtain ⟨x4, y4, hp4⟩ := g4.2
      refine arg_up rfl (by rw [hp4.at_]; simp) (sqT_mono s4 hq1) (ha.but ((b2.trans b3).trans b4)) h0 h1 h2 (fun v5 H5 s5 D5 => ?_)
      have g5 := g4.same s5
      have hc0 : HT.sIx xs.length xs.length (some 0) = 0 := by
        rw [show HT.sIx xs.length xs.length (some 0) = min 0 xs.length from HT.sIx_nat xs.length xs.length 0]
        omega
      have ec : cutV xs none (some 0) = [] := by
        unfold cutV
        rw [hc0]
        simp
      refine ⟨_, rfl, 0, rfl, a, xs, rfl, sqT_mono (s4.trans s5) hq1, (fun h => by rw [hc0] at h; have := h.2; omega), fun _ u6 hu6 => ?_⟩
      rw [ec]
      have g6 := g5.new (o := .tup []) hu6
      have D6 := Dp.newT (K := K) (xs := []) (ds := []) hu6 (g5.ne hu6) .nil
      refine ⟨(by show 1 ≤ sizeLine; decide), fun t7 ht7 => ⟨(by show 1 ≤ sizeLine; decide), fun t8 ht8 => ⟨_, rfl, (by show 7 ≤ sizeLine; decide), fun l9 hl9 => ?_⟩⟩⟩
      have g7 := g6.new (o := .tup [.str "list"]) ht7
      have D7 := Dp.newT (K := K) ht7 (g6.ne ht7) (.cons (.str "list") .nil)
      have g8 := g7.new (o := .tup [.str "record"]) ht8
      have D8 := Dp.newT (K := K) ht8 (g7.ne ht8) (.cons (.str "record") .nil)
      have b9 := But.new (p := p) (o := .lst [.ref l0, .ref r1, v5, .ref u6, .ref t7, .ref t8, .str z]) hl9
      have b8 := (But.new (p := p) (o := .tup [.str "record"]) ht8).trans b9
      have b7 := (But.new (p := p) (o := .tup [.str "list"]) ht7).trans b8
      have b6 := (But.new (p := p) (o := .tup []) hu6).trans b7
      have b5 := (But.same (p := p) s5).trans b6
      refine ⟨l9, _, [.list k.els, .tuple (k.els ++ [.str "x"]), .tuple (.str (PySem.Txt.upper k.word) :: k.els.drop 1), .tuple [], .tuple [.str "list"], .tuple [.str "record"], .str z], rfl, upd_same, g8.ne hl9,
        .cons (D0.but ((b3.trans b4).trans b5)) (.cons (D1.but b5) (.cons (D5.but b6) (.cons (D6.but b7) (.cons (D7.but b8) (.cons (D8.but b9) (.cons (.str z) .nil)))))), ?_, rfl, hk1.but (((b2.trans b3).trans b4).trans b5), g8.new hl9⟩
      have eD : OkAll k.deep (16 + 6 * k.deep) (k.els.drop 1) := by
        cases k with
        | num => exact .nil
        | tru => exact .nil
        | rcd z' => exact (OkAll.cons (n := 0) (a := 8) (b := 0) (.str (name_len hok).2 (by have := (name_len hok).2; omega) (name_asc hok)) .nil : OkAll 0 9 _) |> fun h => ⟨h.lay, h.dep, Nat.le_trans h.wt (by show 9 ≤ 16 + 6 * 0; decide), h.sh, h.ish, h.shw⟩
        | lst k' =>
          have hk' : Ok (k'.deep + 1) (16 + 6 * k'.deep) k'.d := by
            rw [kd_d]
            have := els_len k'
            exact .tup (els_ok hok) (by omega)
          have h := (OkAll.cons (b := 0) hk' .nil)
          exact ⟨h.lay, h.dep, Nat.le_trans h.wt (by show _ ≤ 16 + 6 * (k'.deep + 1); omega), h.sh, h.ish, h.shw⟩
      have wo := word_ok k
      have kel := els_len k
      have m1 : Ok 11 100 (.list k.els) := (Ok.lst eok (by omega)).mono (by omega) (by omega)
      have m2 : Ok 11 100 (.tuple (k.els ++ [.str "x"])) := (Ok.tup (eok.app (OkAll.cons (a := 1) (b := 0) (lit_ok (z := "x") (by decide +kernel) (by decide) (by decide)) .nil)) (by rw [List.length_append]; show k.els.length + 1 ≤ 1000; omega)).mono (by omega) (by omega)
      have m3 : Ok 11 100 (.tuple (.str (PySem.Txt.upper k.word) :: k.els.drop 1)) := (Ok.tup (OkAll.cons (a := 10) (up_ok wo.2 (by omega) (asc_of wo.1)) eD) (by rw [List.length_cons, List.length_drop]; omega)).mono (by omega) (by omega)
      have m4 : Ok 11 100 (.tuple []) := (Ok.tup (n := 0) (m := 0) .nil (by decide)).mono (by decide) (by decide)
      have m5 : Ok 11 100 (.tuple [.str "list"]) := (Ok.tup (n := 0) (OkAll.cons (a := 10) (b := 0) (lit_ok (z := "list") (by decide +kernel) (by decide) (by decide)) .nil) (by decide)).mono (by decide) (by decide)
      have m6 : Ok 11 100 (.tuple [.str "record"]) := (Ok.tup (n := 0) (OkAll.cons (a := 10) (b := 0) (lit_ok (z := "record") (by decide +kernel) (by decide) (by decide)) .nil) (by decide)).mono (by decide) (by decide)
      have m7 : Ok 11 100 (.str z) := .str (by omega) (by omega) za
      have all := OkAll.cons m1 (OkAll.cons m2 (OkAll.cons m3 (OkAll.cons m4 (OkAll.cons m5 (OkAll.cons m6 (OkAll.cons (b := 0) m7 .nil))))))
      exact ⟨all.lay, all.dep, Nat.le_trans all.wt (by decide), all.sh, all.ish, all.shw⟩
    · rintro σ2 H2 ⟨l, vs, ds, rfl, S⟩
      have c1 : OkAll 11 404 [PyData.tuple [.str "record", .str (PySem.Txt.upper z)], .tuple [.str "record", .str (z ++ "abcdefgh")], .tuple [.str "record", .str ""], .tuple [.str "list", .str k.word]] := by
        have r : Ok 0 10 (.str "record") := lit_ok (by decide +kernel) (by decide) (by decide)
        have wo := word_ok k
        have m1 : Ok 11 100 (.tuple [.str "record", .str (PySem.Txt.upper z)]) := (Ok.tup (n := 0) (OkAll.cons r (OkAll.cons (a := 20) (b := 0) (up_ok (by omega) (by omega) za) .nil)) (by show 2 ≤ 1000; decide)).mono (by decide) (by decide)
        have l8 : ("abcdefgh" : Str).length = 8 := by decide
        have m2 : Ok 11 100 (.tuple [.str "record", .str (z ++ "abcdefgh")]) := (Ok.tup (n := 0) (OkAll.cons r (OkAll.cons (a := 20) (b := 0) (cat_ok (by omega) (by omega) za (asc_of (by decide +kernel))) .nil)) (by show 2 ≤ 1000; decide)).mono (by decide) (by decide)
        have m3 : Ok 11 100 (.tuple [.str "record", .str ""]) := (Ok.tup (n := 0) (OkAll.cons r (OkAll.cons (a := 20) (b := 0) (lit_ok (by decide +kernel) (by decide) (by decide)) .nil)) (by show 2 ≤ 1000; decide)).mono (by decide) (by decide)
        have m4 : Ok 11 100 (.tuple [.str "list", .str k.word]) := (Ok.tup (n := 0) (OkAll.cons (a := 10) (lit_ok (z := "list") (by decide +kernel) (by decide) (by decide)) (OkAll.cons (a := 20) (b := 0) (.str (by omega) (by omega) (asc_of wo.1)) .nil)) (by show 2 ≤ 1000; decide)).mono (by decide) (by decide)
        exact OkAll.cons m1 (OkAll.cons m2 (OkAll.cons m3 (OkAll.cons (b := 0) m4 .nil)))
      refine ⟨fun σ' H' => ∃ l vs ds, σ' = [some (.ref p), some v, some (.str z), some (.ref l), none] ∧ Some_ K p l H H' v k 1404 11 vs ds, ?_, ?_⟩
      · obtain ⟨a, xs, rfl, hq, ha, h0, h1, h2⟩ := kd_els S.kd
        have hq1 : SqT K H2 a xs := sqT_mono hid_in hq
        have l8 : ("abcdefgh" : Str).length = 8 := by decide
        refine ⟨_, rfl, _, rfl, ⟨z, rfl⟩, z, rfl, rfl, by omega, (by show 2 ≤ sizeLine; decide), fun t1 ht1 => ⟨_, rfl, _, _, rfl, rfl, by omega, (by show 2 ≤ sizeLine; decide), fun t2 ht2 => ⟨(by show 2 ≤ sizeLine; decide), fun t3 ht3 => ?_⟩⟩⟩
        have g1 := S.go.new (o := .tup [.str "record", .str (PySem.Txt.upper z)]) ht1
        have D1 := Dp.newT (K := K) ht1 (S.go.ne ht1) (.cons (.str "record") (.cons (.str (PySem.Txt.upper z)) .nil))
        have g2 := g1.new (o := .tup [.str "record", .str (z ++ "abcdefgh")]) ht2
        have D2 := Dp.newT (K := K) ht2 (g1.ne ht2) (.cons (.str "record") (.cons (.str (z ++ "abcdefgh")) .nil))
        have g3 := g2.new (o := .tup [.str "record", .str ""]) ht3
        have D3 := Dp.newT (K := K) ht3 (g2.ne ht3) (.cons (.str "record") (.cons (.str "") .nil))
        have s3 := ((Same.new (o := .tup [.str "record", .str (PySem.Txt.upper z)]) ht1).trans (Same.new (o := .tup [.str "record", .str (z ++ "abcdefgh")]) ht2)).trans (Same.new (o := .tup [.str "record", .str ""]) ht3)
        refine ⟨_, rfl, a, xs, 0, .str k.word, rfl, rfl, sqT_mono s3 hq1, atI_nat (j := 0) h0, (by show 2 ≤ sizeLine; decide), fun t4 ht4 => ?_⟩
        have g4 := g3.new (o := .tup [.str "list", .str k.word]) ht4
        have D4 := Dp.newT (K := K) ht4 (g3.ne ht4) (.cons (.str "list") (.cons (.str k.word) .nil))
        refine ⟨(by show 4 ≤ sizeLine; decide), fun l2 hl2 => ?_⟩
        have b5 := But.new (p := p) (o := .lst [.ref t1, .ref t2, .ref t3, .ref t4]) hl2
        have b4 := (But.new (p := p) (o := .tup [.str "list", .str k.word]) ht4).trans b5
        have b3 := (But.new (p := p) (o := .tup [.str "record", .str ""]) ht3).trans b4
        have b2 := (But.new (p := p) (o := .tup [.str "record", .str (z ++ "abcdefgh")]) ht2).trans b3
        have s5 := (s3.trans (Same.new (o := .tup [.str "list", .str k.word]) ht4)).trans (Same.new (o := .lst [.ref t1, .ref t2, .ref t3, .ref t4]) hl2)
        refine ⟨l, l2, _, _, rfl, rfl, s5 _ _ S.at_, upd_same, ?_, fun l3 hl3 => ?_⟩
        · have := S.dat.len
          have := S.len
          show vs.length + 4 ≤ sizeLine
          omega
        · obtain ⟨xp, yp, hpp⟩ := S.go.2
          exact ⟨l3, _, _, rfl, S.grow ⟨But.same s5, _, _, hpp.same s5⟩ upd_same (.cons (D1.but b2) (.cons (D2.but b3) (.cons (D3.but b4) (.cons (D4.but b5) .nil)))) c1 rfl hl3⟩
      · clear S c1 l vs ds
        rintro σ2 H3 ⟨l, vs, ds, rfl, S⟩
        refine ⟨fun σ' H' => ∃ l vs ds, σ' = [some (.ref p), some v, some (.str z), some (.ref l), none] ∧ Some_ K p l H H' v k 1606 13 vs ds, ?_, ?_⟩
        · obtain ⟨x1, y1, hp1⟩ := S.go.2
          refine ⟨_, rfl, (by show 4 ≤ sizeLine; decide), fun l1 hl1 => ⟨_, rfl, p, x1, y1, 4, rfl, hp1.new hl1, by decide, by decide, fun r x2 y2 r0 r1 hp2 => ?_⟩⟩
          have g1 := S.go.new (o := .lst [.str "number", .str "truth", .str "yes", .str "no"]) hl1
          have gp := going_pot (But.refl p (upd H3 l1 (.lst [.str "number", .str "truth", .str "yes", .str "no"]))) hp2
          have n1 := S.go.ne hl1
          obtain ⟨kz, hkz, hat⟩ := atI_strs (l := ["number", "truth", "yes", "no"]) r0 r1
          have kzok : Ok 0 10 (.str kz) := by
            simp only [List.mem_cons, List.not_mem_nil, or_false] at hkz
            rcases hkz with rfl | rfl | rfl | rfl <;> exact lit_ok (by decide +kernel) (by decide) (by decide)
          have gA := going_new (o := .lst [.str "number", .str "truth", .str "yes", .str "no"]) hp1 hl1
          refine ⟨l1, _, r, .str kz, rfl, rfl, SqL.of (gp.1 _ _ n1 upd_same), hat, (by show 2 ≤ sizeLine; decide), fun t1 ht1 => ⟨_, rfl, (by show 2 ≤ sizeLine; decide), fun t2 ht2 => ⟨(by show 2 ≤ sizeLine; decide), fun l2 hl2 => ?_⟩⟩⟩
          have gB := gA.trans gp
          have D1 := Dp.newT (K := K) ht1 (gp.ne ht1) (.cons (.str "record") (.cons (.str kz) .nil))
          have gC := gB.new (o := .tup [.str "record", .str kz]) ht1
          have D2 := Dp.newT (K := K) ht2 (gC.ne ht2) (.cons (.str "record") (.cons (S.kd.but gC.1) .nil))
          have gD := gC.new (o := .tup [.str "record", v]) ht2
          have b3 := But.new (p := p) (o := .lst [.ref t1, .ref t2]) hl2
          have b2 := (But.new (p := p) (o := .tup [.str "record", v]) ht2).trans b3
          have gE := gD.new (o := .lst [.ref t1, .ref t2]) hl2
          have S' := S.go_on gE
          refine ⟨l, l2, _, _, rfl, rfl, S'.at_, upd_same, ?_, fun l3 hl3 => ?_⟩
          · have := S.dat.len
            have := S.len
            show vs.length + 2 ≤ sizeLine
            omega
          · have m1 : Ok 11 100 (.tuple [.str "record", .str kz]) := (Ok.tup (n := 0) (OkAll.cons (a := 10) (lit_ok (z := "record") (by decide +kernel) (by decide) (by decide)) (OkAll.cons (a := 20) (b := 0) (kzok.mono (by decide) (by decide)) .nil)) (by show 2 ≤ 1000; decide)).mono (by decide) (by decide)
            have m2 : Ok 11 100 (.tuple [.str "record", k.d]) := (Ok.tup (n := 9) (OkAll.cons (a := 10) (lit_ok (z := "record") (by decide +kernel) (by decide) (by decide)) (OkAll.cons (b := 0) kok .nil)) (by show 2 ≤ 1000; decide)).mono (by decide) (by decide)
            exact ⟨l3, _, _, rfl, S.grow gE upd_same (.cons (D1.but b2) (.cons (D2.but b3) .nil)) (OkAll.cons m1 (OkAll.cons (b := 0) m2 .nil)) rfl hl3⟩
        · clear S l vs ds
          rintro σ2 H4 ⟨l, vs, ds, rfl, S⟩
          refine ⟨fun σ' H' => ∃ l vs ds, σ' = [some (.ref p), some v, some (.str z), some (.ref l), none] ∧ Some_ K p l H H' v k 1807 14 vs ds, ?_, ?_⟩
          · obtain ⟨x1, y1, hp1⟩ := S.go.2
            refine ⟨_, rfl, _, rfl, _, rfl, (by show 3 ≤ sizeLine; decide), fun t1 ht1 => ⟨(by show 1 ≤ sizeLine; decide), fun l2 hl2 => ?_⟩⟩
            have D1 := Dp.newT (K := K) ht1 (S.go.ne ht1) (.cons (.str "list") (.cons S.kd (.cons S.kd .nil)))
            have gA := going_new (o := .tup [.str "list", v, v]) hp1 ht1
            have gE := gA.new (o := .lst [.ref t1]) hl2
            have S' := S.go_on gE
            refine ⟨l, l2, _, _, rfl, rfl, S'.at_, upd_same, ?_, fun l3 hl3 => ?_⟩
            · have := S.dat.len
              have := S.len
              show vs.length + 1 ≤ sizeLine
              omega
            · have m1 : Ok 11 200 (.tuple [.str "list", k.d, k.d]) := (Ok.tup (n := 9) (OkAll.cons (a := 10) (lit_ok (z := "list") (by decide +kernel) (by decide) (by decide)) (OkAll.cons kok (OkAll.cons (b := 0) kok .nil))) (by show 3 ≤ 1000; decide)).mono (by decide) (by decide)
              exact ⟨l3, _, _, rfl, S.grow gE upd_same (.cons (D1.but (But.new hl2)) .nil) (OkAll.cons (b := 0) m1 .nil) rfl hl3⟩
          · clear S l vs ds
            rintro σ2 H5 ⟨l, vs, ds, rfl, S⟩
            refine ⟨fun σ' H' => ∃ l vs ds, σ' = [some (.ref p), some v, some (.str z), some (.ref l), none] ∧ Some_ K p l H H' v k 2009 16 vs ds, ?_, ?_⟩
            · obtain ⟨x1, y1, hp1⟩ := S.go.2
              refine ⟨_, rfl, (by show 4 ≤ sizeLine; decide), fun l1 hl1 => ⟨_, rfl, p, x1, y1, 4, rfl, hp1.new hl1, by decide, by decide, fun r x2 y2 r0 r1 hp2 => ?_⟩⟩
              have gp := going_pot (But.refl p (upd H5 l1 (.lst [.non, .int 7, .bl true, .str "number"]))) hp2
              have n1 := S.go.ne hl1
              have gA := going_new (o := .lst [.non, .int 7, .bl true, .str "number"]) hp1 hl1
              obtain ⟨od, hod, er⟩ := pick_at (l := [PyData.none, .int 7, .bool true, .str "number"]) r0 r1
              have oall : OkAll 11 400 [PyData.none, .int 7, .bool true, .str "number"] := OkAll.cons (a := 20) .none (OkAll.cons (a := 20) (.seven (by decide)) (OkAll.cons (a := 20) (.bool true) (OkAll.cons (a := 20) (b := 316) (lit_ok (z := "number") (by decide +kernel) (by decide) (by decide)) .nil)))
              have dall : DpAll K (hid p (upd (upd H5 l1 (.lst [.non, .int 7, .bl true, .str "number"])) p (.lst [.int x2, .int y2]))) [.non, .int 7, .bl true, .str "number"] [PyData.none, .int 7, .bool true, .str "number"] := .cons .non (.cons (.int 7) (.cons (.bl true) (.cons (.str "number") .nil)))
              obtain ⟨ov, hov, oD⟩ := dall.get hod
              have ook : Ok 11 100 od := by
                have hm := List.mem_of_getElem? hod
                simp only [List.mem_cons, List.not_mem_nil, or_false] at hm
                rcases hm with rfl | rfl | rfl | rfl
                · exact .none
                · exact .seven (by decide)
                · exact .bool true
                · exact lit_ok (z := "number") (by decide +kernel) (by decide) (by decide)
              refine ⟨l1, _, r, ov, rfl, rfl, SqL.of (gp.1 _ _ n1 upd_same), atI_pick er hov, _, rfl, (by show 2 ≤ sizeLine; decide), fun t2 ht2 => ⟨(by show 2 ≤ sizeLine; decide), fun l2 hl2 => ?_⟩⟩
              have gB := gA.trans gp
              have D2 := Dp.newT (K := K) ht2 (gp.ne ht2) (.cons (.int 7) (.cons (S.kd.but gB.1) .nil))
              have gD := gB.new (o := .tup [.int 7, v]) ht2
              have b3 := But.new (p := p) (o := .lst [ov, .ref t2]) hl2
              have b2 := (But.new (p := p) (o := .tup [.int 7, v]) ht2).trans b3
              have gE := gD.new (o := .lst [ov, .ref t2]) hl2
              have S' := S.go_on gE
              refine ⟨l, l2, _, _, rfl, rfl, S'.at_, upd_same, ?_, fun l3 hl3 => ?_⟩
              · have := S.dat.len
                have := S.len
                show vs.length + 2 ≤ sizeLine
                omega
              · have m2 : Ok 11 100 (.tuple [.int 7, k.d]) := (Ok.tup (n := 9) (OkAll.cons (a := 10) (.seven (by decide)) (OkAll.cons (b := 0) kok .nil)) (by show 2 ≤ 1000; decide)).mono (by decide) (by decide)
                exact ⟨l3, _, _, rfl, S.grow gE upd_same (.cons (oD.but b2) (.cons (D2.but b3) .nil)) (OkAll.cons ook (OkAll.cons (b := 0) m2 .nil)) rfl hl3⟩
            · clear S l vs ds
              rintro σ2 H6 ⟨l, vs, ds, rfl, S⟩
              refine ⟨fun σ' H' => ∃ l u d, σ' = [some (.ref p), some v, some (.str z), some (.ref l), some u] ∧ Dh K p H' u d ∧ Ok 11 2009 d ∧ Going p H H', ?_, ?_⟩
              · obtain ⟨x1, y1, hp1⟩ := S.go.2
                have hvl : vs.length = 16 := S.dat.len.trans S.len
                refine ⟨_, rfl, _, rfl, _, rfl, l, vs, rfl, .inl (SqL.of S.at_), p, x1, y1, 16, (by rw [hvl]; rfl), hp1, by decide, by decide, fun r x2 y2 r0 r1 hp2 => ?_⟩
                have gp := going_pot (But.refl p H6) hp2
                obtain ⟨d, hd, er⟩ := pick_at (l := ds) (r := r) r0 (by rw [S.len]; exact r1)
                obtain ⟨u, hu, hD⟩ := S.dat.get hd
                refine ⟨l, vs, r, u, rfl, rfl, SqL.of (gp.1 _ _ S.ne S.at_), atI_pick er hu, ?_⟩
                exact ⟨l, u, d, rfl, hD.but gp.1, S.ok.at hd, S.go.trans gp⟩
              · clear S l vs ds
                rintro σ2 H7 ⟨l, u, d, rfl, hD, hOk, g⟩
                obtain ⟨x1, y1, hp1⟩ := g.2
                refine ⟨_, rfl, _, rfl, (by show 2 ≤ sizeLine; decide), fun t1 ht1 => ⟨_, rfl, (by show 2 ≤ sizeLine; decide), fun t2 ht2 => ⟨(by show 2 ≤ sizeLine; decide), fun t3 ht3 => ⟨(by show 3 ≤ sizeLine; decide), fun l2 hl2 => ?_⟩⟩⟩⟩
                have g1 := g.new (o := .tup [.str "list", u]) ht1
                have D1 := Dp.newT (K := K) ht1 (g.ne ht1) (.cons (.str "list") (.cons hD .nil))
                have c1 := But.new (p := p) (o := .tup [.str "list", u]) ht1
                have g2 := g1.new (o := .tup [.str "list", u]) ht2
                have D2 := Dp.newT (K := K) ht2 (g1.ne ht2) (.cons (.str "list") (.cons (hD.but c1) .nil))
                have g3 := g2.new (o := .tup [.str "list", .ref t2]) ht3
                have D3 := Dp.newT (K := K) ht3 (g2.ne ht3) (.cons (.str "list") (.cons D2 .nil))
                have g4 := g3.new (o := .lst [u, .ref t1, .ref t3]) hl2
                have nl2 := g3.ne hl2
                obtain ⟨x4, y4, hp4⟩ := g4.2
                refine ⟨_, rfl, p, x4, y4, 3, rfl, hp4, by decide, by decide, fun r x5 y5 r0 r1 hp5 => ?_⟩
                have gp := going_pot (But.refl p _) hp5
                have b4 := (But.new (p := p) (o := .lst [u, .ref t1, .ref t3]) hl2).trans gp.1
                have b3 := (But.new (p := p) (o := .tup [.str "list", .ref t2]) ht3).trans b4
                have b2 := (But.new (p := p) (o := .tup [.str "list", u]) ht2).trans b3
                have lo : Ok 11 10 (.str "list") := lit_ok (z := "list") (by decide +kernel) (by decide) (by decide)
                have o1 : Ok 12 2100 (.tuple [.str "list", d]) := (Ok.tup (OkAll.cons lo (OkAll.cons (b := 0) hOk .nil)) (by show 2 ≤ 1000; decide)).mono (by decide) (by decide)
                have o2 : Ok 13 4000 (.tuple [.str "list", .tuple [.str "list", d]]) := (Ok.tup (OkAll.cons (lo.mono (by decide) (Nat.le_refl _)) (OkAll.cons (b := 0) o1 .nil)) (by show 2 ≤ 1000; decide)).mono (by decide) (by decide)
                have hcase : r = 0 ∨ r = 1 ∨ r = 2 := by omega
                have hL := SqL.of (K := K) (gp.1 _ _ nl2 upd_same)
                rcases hcase with e | e | e
                · refine ⟨l2, _, _, u, rfl, rfl, hL, by rw [e]; exact atI_nat (j := 0) rfl, ?_⟩
                  exact q u d _ (hOk.mono (by decide) (by decide)) (hD.but (c1.trans b2)) (g4.trans gp)
                · refine ⟨l2, _, _, .ref t1, rfl, rfl, hL, by rw [e]; exact atI_nat (j := 1) rfl, ?_⟩
                  exact q _ _ _ (o1.mono (by decide) (by decide)) (D1.but b2) (g4.trans gp)
                · refine ⟨l2, _, _, .ref t3, rfl, rfl, hL, by rw [e]; exact atI_nat (j := 2) rfl, ?_⟩
                  exact q _ _ _ o2 (D3.but b4) (g4.trans gp)
end
end K11
set_option Elab.async false
set_option linter.all false
set_option maxRecDepth 100000
set_option maxHeartbeats 4000000
namespace K11
open PySem PySem.Spec PyProof.Rows L2
open C8 (Cal Def cal0 pe_c fnBody fnScope fnArgs)
theorem kind_true : ∀ {k : Kd}, k.ok → kindB k.d = true
  | .num, _ => by simp [Kd.d, kindB]
  | .tru, _ => by simp [Kd.d, kindB]
  | .rcd z, h => by
    show kindB (.tuple [.str "record", .str z]) = true
    rw [kindB_rec]
    exact h
  | .lst k, h => by
    show kindB (.tuple [.str "list", k.d]) = true
    rw [kindB_list]
    exact kind_true (k := k) h
theorem inner_names : ∀ {k : Kd}, k.ok → ∀ z ∈ k.inner, nameS z = true
  | .num, _, _, h => nomatch h
  | .tru, _, _, h => nomatch h
  | .rcd z, h, y, hy => by
    have e : y = z := List.mem_singleton.mp hy
    rw [e]
    exact h
  | .lst k, h, y, hy => inner_names (k := k) h y hy
theorem strs_lay : ∀ {l : List Str}, (∀ z ∈ l, nameS z = true) → PyData.canLayAll0 (l.map PyData.str) = true
  | [], _ => by simp [PyData.canLayAll0]
  | z :: l, h => by
    simp only [List.map_cons, PyData.canLayAll0, strs_lay (l := l) fun y hy => h y (List.mem_cons_of_mem _ hy), Bool.and_true]
    have hz := h z List.mem_cons_self
    exact (Ok.str (n := 0) (m := 8) (name_len hz).2 (by have := (name_len hz).2; omega) (name_asc hz)).lay
theorem strs_depth : ∀ (l : List Str), PyData.depthAll (l.map PyData.str) = 0
  | [] => by simp [PyData.depthAll]
  | z :: l => by
    simp only [List.map_cons, PyData.depthAll, strs_depth l, PyData.depth]
    rfl
theorem strs_shaped {l : List Str} (h : ∀ z ∈ l, nameS z = true) : SeqAt.shaped (.list (l.map PyData.str)) = true := by
  refine shaped_of (by simp only [PyData.canLay0]; exact strs_lay h) ?_
  simp only [PyData.depth, strs_depth]
  decide
section
variable {P : Program} {w : World} {K : PySem.W.Frag} {mg : Str → Option Value} {base : Heap}
theorem strs_dp {H : Hp} : ∀ l : List Str, DpAll K H (l.map V.str) (l.map PyData.str)
  | [] => .nil
  | z :: l => .cons (.str z) (strs_dp l)
theorem sqL_but {p a : Addr} {H H' : Hp} {xs : List V} (hp : H p = none) (h : SqL K H a xs) (e : But p H H') : SqL K H' a xs := by
  rcases h with (h | ⟨o, h⟩) | h
  · exact .inl (.inl (e _ _ (ne_of_none h hp) h))
  · exact .inl (.inr ⟨o, e _ _ (ne_of_none h hp) h⟩)
  · exact .inr h
theorem but_off {p l : Addr} {H H' : Hp} {o : HO} (e : But p H H') (hl : H l = none) : But p H (upd H' l o) := fun b u n h => by
  rw [upd_ne (ne_of_none h hl)]
  exact e b u n h
abbrev sLaw : Stmt := topS 18
abbrev NLaw : List Str := ["_law_script", "_law_k", "_law_pot_here", "_law_kind_here", "_law_told", "_law_other_here", "_law_kept", "_law_found", "_law_name"]
theorem scLaw : FnScope NLaw ["_law_script"] (fnScope sLaw) := ⟨rfl, rfl, rfl, by decide +kernel, rfl, by decide +kernel, by decide +kernel⟩
def spLaw (K : PySem.W.Frag) : Sp := fun vs H Q _ => ∃ (a : Addr) (ns : List Int), vs = [.ref a] ∧ SqL K H a (ns.map V.int) ∧ ns.length ≤ 63 ∧ ∀ H', Q (.bl true) H'
theorem f_law (T : Tp mg) (c_LCellAt : Cal P w K mg base 1 "_law_cell_at" (spCellAt K) []) (c_LPot : Cal P w K mg base 1 "_law_pot" spPot []) (c_LKind : Cal P w K mg base 11 "_law_kind" (spKind K 9) [])
    (c_PNamesIn : Cal P w K mg base 1 "names_in" (spInner K 9) []) (c_PIsKind : Cal P w K mg base 2 "is_kind" (spLook K kindB) []) (c_LInner : Cal P w K mg base 9 "_law_inner" (spInner K 9) []) (c_LOther : Cal P w K mg base 3 "_law_other" (spOther K) [])
    (c_LIsKind : Cal P w K mg base 15 "_law_is_kind" (spLook2 K kindB 14) []) (c_LNamed : Cal P w K mg base 3 "_law_named" (spDrawn K 3 2000) []) (c_PIsName : Cal P w K mg base 1 "is_name" (spLook K nameB) []) (c_LIsName : Cal P w K mg base 1 "_law_is_name" (spLook2 K nameB 64) [])
    {f : Addr} {fd : FuncData} (D : Def K mg "law" sLaw f fd) : FnG P w K mg base C8.CX0 16 f fd ["_law_script"] (spLaw K) := by
  refine fnG0 D scLaw (fun vs H Q E h => ?_) (fun cdv A outer s H vs Q E hg hr h => ?_)
  · obtain ⟨a, ns, rfl, _⟩ := h
    rfl
  · obtain ⟨a, ns, rfl, hS, hn, q⟩ := h
    have nd := scLaw.nd
    refine ⟨_, (pss_cons (ps_for PassesOwn.never rfl (pi_range1 (by rfl) T.n_range (pa_cons (pe_callB (call_max2 rfl) (by rfl) T.n_max (by decide +kernel) (pa_cons pe_int (pa_cons (pe_callB (call_min2 rfl) (by rfl) T.n_min (by decide +kernel) (pa_cons (pe_callB call_len_seq (by rfl) T.n_len (by decide +kernel) (pa_cons (pv 0) pa_nil)) (pa_cons pe_int pa_nil))) pa_nil))) pa_nil)) (pg_name (i := 1) nd rfl (.inl rfl))
      (pss_cons (ps_set (i := 2) nd rfl (.inl rfl) (pe_c c_LPot hr (by decide) (by rfl) (pa_cons (pe_c c_LCellAt hr (by decide) (by rfl) (pa_cons (pv 0) (pa_cons (pv 1) pa_nil))) (pa_cons (pv 1) pa_nil))))
    (pss_cons (ps_set (i := 3) nd rfl (.inl rfl) (pe_c c_LKind hr (by decide) (by rfl) (pa_cons (pv 2) (pa_cons pe_int pa_nil))))
    (pss_cons (ps_set (i := 4) nd rfl (.inl rfl) (pe_c c_PNamesIn hr (by decide) (by rfl) (pa_cons (pv 3) pa_nil)))
    (pss_cons (ps_if (PW.pt (pw_or (pt_cmpR op_notBl (pe_c c_PIsKind hr (by decide) (by rfl) (pa_cons (pv 3) pa_nil)) pe_bl (nomark _)) (pw_or (pt_not (pt_val (pe_callB call_isD (by rfl) T.n_isinstance (by decide +kernel) (pa_cons (pv 4) (pa_cons (pe_bltn (v := .ty "list") (by rfl) T.n_list (by decide +kernel) rfl) pa_nil))))) (pw_or1 (pt_cmpR (op_neD hr.units) (pv 4) (pe_c c_LInner hr (by decide) (by rfl) (pa_cons (pv 3) pa_nil)) (nomark _))))))
      (pss_one (ps_ret pe_bl))
      pss_nil)
    (pss_cons (ps_expr (pe_bm PySem.F.plainAttrs_list PySem.F.slot_list_append PySem.F.type_list_append mt_append (pv 4) (pa_cons pe_str pa_nil)))
    (pss_cons (ps_if (pt_cmpR (op_neD hr.units) (pe_c c_PNamesIn hr (by decide) (by rfl) (pa_cons (pv 3) pa_nil)) (pe_c c_LInner hr (by decide) (by rfl) (pa_cons (pv 3) pa_nil)) (nomark _))
      (pss_one (ps_ret pe_bl))
      pss_nil)
    (pss_cons (ps_set (i := 5) nd rfl (.inl rfl) (pe_c c_LOther hr (by decide) (by rfl) (pa_cons (pv 2) (pa_cons (pv 3) pa_nil))))
    (pss_cons (ps_set (i := 6) nd rfl (.inl rfl) (pe_callB (call_reprD hg (hrep_of hr)) (by rfl) T.n_repr (by decide +kernel) (pa_cons (pv 5) pa_nil)))
    (pss_cons (ps_set (i := 7) nd rfl (.inl rfl) (pe_c c_PIsKind hr (by decide) (by rfl) (pa_cons (pv 5) pa_nil)))
    (pss_cons (ps_if (PW.pt (pw_or (pt_not (pt_val (pe_callB call_isD (by rfl) T.n_isinstance (by decide +kernel) (pa_cons (pv 7) (pa_cons (pe_bltn (v := .ty "bool") (by rfl) T.n_bool (by decide +kernel) rfl) pa_nil))))) (pw_or (pt_cmpR op_ne (pv 7) (pe_c c_LIsKind hr (by decide) (by rfl) (pa_cons (pv 5) pa_nil)) (nomark _)) (pw_or1 (pt_cmpR op_ne (pe_callB (call_reprD hg (hrep_of hr)) (by rfl) T.n_repr (by decide +kernel) (pa_cons (pv 5) pa_nil)) (pv 6) (nomark _))))))
      (pss_one (ps_ret pe_bl))
      pss_nil)
    (pss_cons (ps_set (i := 8) nd rfl (.inl rfl) (pe_c c_LNamed hr (by decide) (by rfl) (pa_cons (pv 2) pa_nil)))
    (pss_cons (ps_set (i := 7) nd rfl (.inl rfl) (pe_c c_PIsName hr (by decide) (by rfl) (pa_cons (pv 8) pa_nil)))
    (pss_one (ps_if (PW.pt (pw_or (pt_not (pt_val (pe_callB call_isD (by rfl) T.n_isinstance (by decide +kernel) (pa_cons (pv 7) (pa_cons (pe_bltn (v := .ty "bool") (by rfl) T.n_bool (by decide +kernel) rfl) pa_nil))))) (pw_or1 (pt_cmpR op_ne (pv 7) (pe_c c_LIsName hr (by decide) (by rfl) (pa_cons (pv 8) pa_nil)) (nomark _)))))
      (pss_one (ps_ret pe_bl))
      pss_nil)))))))))))))))
    (pss_one (ps_ret pe_bl))), ?_⟩
    have hlen : (ns.map V.int).length = ns.length := List.length_map ..
    refine ⟨_, rfl, a, _, rfl, .inl hS, _, _, rfl, _, _, rfl, _, rfl, ?_, ?_, ?_⟩
    · split <;> split <;> omega
    · split <;> split <;> omega
    · refine for_range (lo := 0) (n := (if (if (30 : Int) < ((ns.map V.int).length : Nat) then (30 : Int) else ((ns.map V.int).length : Nat)) > 1 then (if (30 : Int) < ((ns.map V.int).length : Nat) then (30 : Int) else ((ns.map V.int).length : Nat)) else 1).toNat)
        (fun i σ H' => (∃ o1 o2 o3 o4 o5 o6 o7 o8, σ = [some (.ref a), o1, o2, o3, o4, o5, o6, o7, o8]) ∧ SqL K H' a (ns.map V.int)) ⟨⟨_, _, _, _, _, _, _, _, rfl⟩, hS⟩ (fun i σ H' hi hW => ?_) (fun σ H' hW => ?_)
      · obtain ⟨⟨o1, o2, o3, o4, o5, o6, o7, o8, rfl⟩, hS'⟩ := hW
        have hi' : i ≤ 100 := by
          have h2 : i < _ := hi
          split at h2 <;> (try split at h2) <;> omega
        have e0 : (0 : Int) + (i : Int) = (i : Int) := Int.zero_add _
        rw [e0]
        refine ⟨_, rfl, _, rfl, a, ns, i, rfl, hS', fun n => ⟨_, rfl, n, i, rfl, hi', fun p x y hpn hp => ?_⟩⟩
        have bS : But p H' (upd H' p (.lst [.int x, .int y])) := (But.refl p H').pot
        refine ⟨_, rfl, p, x, y, 8, rfl, by decide, hp, fun v k H2 kok kd hD g1 => ?_⟩
        have hD' := hD.un
        have kO := kd_ok kok kd
        have lt9 : k.deep < 9 := by omega
        refine ⟨_, rfl, v, k, rfl, hD', lt9, fun l H3 hl s3 hat => ?_⟩
        refine ⟨_, rfl, v, k.d, rfl, hD'.mono s3, kO.sh, fun H4 s4 => ⟨_, _, rfl, rfl, _, rfl, iteF' (by rw [kind_true kok]; rfl) ?_⟩⟩
        have hinn := inner_names kok
        have hat4 := s4 _ _ hat
        refine ⟨_, rfl, .ref l, .list (k.inner.map PyData.str), "list", rfl, .lst (SqL.of hat4) (strs_dp _), by decide, _, rfl, iteF ?_⟩
        refine ⟨_, rfl, _, rfl, v, k, rfl, (hD'.mono s3).mono s4, lt9, fun l2 H5 hl2 s5 hat5 => ?_⟩
        have sh := strs_shaped hinn
        have hat45 := s5 _ _ hat4
        refine ⟨.list (k.inner.map PyData.str), .list (k.inner.map PyData.str), .lst (SqL.of hat45) (strs_dp _), .lst (SqL.of hat5) (strs_dp _), sh, sh, _, rfl, iteF' (by rw [SeqAt.eqv_refl _ (SeqAt.canLay_of_shaped sh)]; rfl) ?_⟩
        refine ⟨_, rfl, .inl ⟨rfl, _, SqL.of hat45⟩, l, _, .str "b", rfl, rfl, hat45, ?_, ?_⟩
        · rw [List.length_map]
          have : k.inner.length ≤ 1 := by
            clear hinn hat hat4 hat5 hat45 sh hD hD' kO lt9 kd
            induction k with
            | num => exact Nat.zero_le _
            | tru => exact Nat.zero_le _
            | rcd z => exact Nat.le_refl _
            | lst k ih => exact ih kok
          exact Nat.lt_of_le_of_lt this (by decide)
        · have b6 : But p H2 (upd H5 l (.lst (k.inner.map V.str ++ [.str "b"]))) := but_off (But.same ((s3.trans s4).trans s5)) hl
          obtain ⟨x2, y2, hp2⟩ := g1.2
          have nlp : l ≠ p := hp2.ne hl
          have hp6 : Pot (upd H5 l (.lst (k.inner.map V.str ++ [.str "b"]))) p x2 y2 := ⟨by rw [upd_ne nlp.symm]; exact ((s3.trans s4).trans s5) _ _ hp2.at_, hp2.x0, hp2.y0, hp2.y1⟩
          have D6 : Dh K p _ v k.d := hD.but b6
          refine ⟨_, rfl, v, k, rfl, D6.un, lt9, fun l7 H7 hl7 s7 hat7 => ?_⟩
          refine ⟨_, rfl, v, k, rfl, D6.un.mono s7, lt9, fun l8 H8 hl8 s8 hat8 => ?_⟩
          refine ⟨.list (k.inner.map PyData.str), .list (k.inner.map PyData.str), .lst (SqL.of (s8 _ _ hat7)) (strs_dp _), .lst (SqL.of hat8) (strs_dp _), sh, sh, _, rfl, iteF' (by rw [SeqAt.eqv_refl _ (SeqAt.canLay_of_shaped sh)]; rfl) ?_⟩
          have s68 := s7.trans s8
          have D8 : Dh K p H8 v k.d := D6.but (But.same s68)
          refine ⟨_, rfl, _, rfl, p, x2, y2, v, k, rfl, hp6.same s68, D8, kok, kd, fun v9 d H9 od Dd g9 => ?_⟩
          have shB := od.shownB (by decide) (by decide)
          refine ⟨_, rfl, v9, d, rfl, Dd.un, shB, ?_⟩
          refine ⟨_, rfl, v9, d, rfl, Dd.un, od.sh, fun H10 s10 => ?_⟩
          refine ⟨_, rfl, .bl (kindB d), .bool (kindB d), "bool", rfl, .bl _, by decide, _, rfl, iteF ?_⟩
          refine ⟨_, rfl, _, rfl, v9, d, rfl, Dd.un.mono s10, od.sh, od.lay, Nat.lt_succ_of_le od.dep, by decide, fun H11 s11 => ⟨rfl, _, rfl, iteF' (by rw [decide_eq_true rfl]; rfl) ?_⟩⟩
          refine ⟨_, rfl, v9, d, rfl, (Dd.un.mono s10).mono s11, shB, _, rfl, rfl, _, rfl, iteF' (by rw [decide_eq_true rfl]; rfl) ?_⟩
          obtain ⟨x9, y9, hp9⟩ := g9.2
          refine ⟨_, rfl, p, x9, y9, rfl, (hp9.same s10).same s11, fun v12 e H12 oe De g12 => ?_⟩
          refine ⟨_, rfl, v12, e, rfl, De.un, oe.sh, fun H13 s13 => ?_⟩
          refine ⟨_, rfl, .bl (nameB e), .bool (nameB e), "bool", rfl, .bl _, by decide, _, rfl, iteF ?_⟩
          refine ⟨_, rfl, _, rfl, v12, e, rfl, De.un.mono s13, oe.sh, oe.lay, Nat.lt_of_le_of_lt oe.dep (by decide), by decide, fun H14 s14 => ⟨rfl, _, rfl, iteF' (by rw [decide_eq_true rfl]; rfl) ?_⟩⟩
          refine ⟨⟨_, _, _, _, _, _, _, _, rfl⟩, ?_⟩
          have bAll : But p H' H14 := (((((((bS.trans g1.1).trans b6).trans (But.same s68)).trans g9.1).trans (But.same (s10.trans s11))).trans g12.1).trans (But.same (s13.trans s14)))
          exact sqL_but hpn hS' bAll
      · exact q H'
end
end K11
set_option Elab.async false
set_option linter.all false
set_option maxRecDepth 100000
set_option maxHeartbeats 8000000
namespace K11
open PySem PySem.Spec PyProof.Rows L2
open C8 (Cal Def cal0 pe_c fnBody fnScope fnArgs)
/-- a def of the module's top -/
theorem def_mk {K : PySem.W.Frag} {h : Heap} {mg : Str → Option Value} (X : K.In h) (G : h.Ns mainGlobals mg) {x : Str} {st : Stmt} {f : Addr} {oc : Value} {od an : Option Addr} {osl : Array (Option Value)} {kV doc pm cdv ct : Value}
    (a : PySem.W.nsIn K mainGlobals x = some (some (.ref f)))
    (l : K.lookup f = some ⟨oc, od, .func (PySem.W.fnOf x x (fnArgs st) (fnBody st) (fnScope st) .none kV doc pm an cdv ct), osl⟩)
    (c : PySem.W.codeIn K cdv x = true) (k : PySem.W.keepIn K (.ref f) = true) : Def K mg x st f (PySem.W.fnOf x x (fnArgs st) (fnBody st) (fnScope st) .none kV doc pm an cdv ct) :=
  ⟨⟨⟨oc, od, .none, kV, doc, pm, an, cdv, ct, osl, rfl, l, c⟩⟩, PySem.W.mg_of X G a, k⟩
theorem all_mk {l : PySem.W.OpenLaw} {w : World} {K : PySem.W.Frag} {h : Heap} {mg : Str → Option Value} {fa aK : Addr} (X : K.In h) (G : h.Ns mainGlobals mg) (hfa : mg "law" = some (.ref fa))
    {f1 : Addr} {od1 an1 : Option Addr} {sl1 : Array (Option Value)} {oc1 kV1 dc1 pm1 cd1 ct1 : Value}
    {f2 : Addr} {od2 an2 : Option Addr} {sl2 : Array (Option Value)} {oc2 kV2 dc2 pm2 cd2 ct2 : Value}
    {f3 : Addr} {od3 an3 : Option Addr} {sl3 : Array (Option Value)} {oc3 kV3 dc3 pm3 cd3 ct3 : Value}
    {f4 : Addr} {od4 an4 : Option Addr} {sl4 : Array (Option Value)} {oc4 kV4 dc4 pm4 cd4 ct4 : Value}
    {f5 : Addr} {od5 an5 : Option Addr} {sl5 : Array (Option Value)} {oc5 kV5 dc5 pm5 cd5 ct5 : Value}
    {f6 : Addr} {od6 an6 : Option Addr} {sl6 : Array (Option Value)} {oc6 kV6 dc6 pm6 cd6 ct6 : Value}
    {f7 : Addr} {od7 an7 : Option Addr} {sl7 : Array (Option Value)} {oc7 kV7 dc7 pm7 cd7 ct7 : Value}
    {f8 : Addr} {od8 an8 : Option Addr} {sl8 : Array (Option Value)} {oc8 kV8 dc8 pm8 cd8 ct8 : Value}
    {f9 : Addr} {od9 an9 : Option Addr} {sl9 : Array (Option Value)} {oc9 kV9 dc9 pm9 cd9 ct9 : Value}
    {f10 : Addr} {od10 an10 : Option Addr} {sl10 : Array (Option Value)} {oc10 kV10 dc10 pm10 cd10 ct10 : Value}
    {f11 : Addr} {od11 an11 : Option Addr} {sl11 : Array (Option Value)} {oc11 kV11 dc11 pm11 cd11 ct11 : Value}
    {f12 : Addr} {od12 an12 : Option Addr} {sl12 : Array (Option Value)} {oc12 kV12 dc12 pm12 cd12 ct12 : Value}
    {f13 : Addr} {od13 an13 : Option Addr} {sl13 : Array (Option Value)} {oc13 kV13 dc13 pm13 cd13 ct13 : Value}
    {f14 : Addr} {od14 an14 : Option Addr} {sl14 : Array (Option Value)} {oc14 kV14 dc14 pm14 cd14 ct14 : Value}
    {f15 : Addr} {od15 an15 : Option Addr} {sl15 : Array (Option Value)} {oc15 kV15 dc15 pm15 cd15 ct15 : Value}
    {dK : Option Addr} {iK : Array Value} {nK : Nat} {sK : Array (Option Value)} {uL : Value}
    (a1 : PySem.W.nsIn K mainGlobals "is_name" = some (some (.ref f1))) (l1 : K.lookup f1 = some ⟨oc1, od1, .func (PySem.W.fnOf "is_name" "is_name" (fnArgs sPIsName) (fnBody sPIsName) (fnScope sPIsName) .none kV1 dc1 pm1 an1 cd1 ct1), sl1⟩) (c1 : PySem.W.codeIn K cd1 "is_name" = true) (k1 : PySem.W.keepIn K (.ref f1) = true)
    (a2 : PySem.W.nsIn K mainGlobals "is_kind" = some (some (.ref f2))) (l2 : K.lookup f2 = some ⟨oc2, od2, .func (PySem.W.fnOf "is_kind" "is_kind" (fnArgs sPIsKind) (fnBody sPIsKind) (fnScope sPIsKind) .none kV2 dc2 pm2 an2 cd2 ct2), sl2⟩) (c2 : PySem.W.codeIn K cd2 "is_kind" = true) (k2 : PySem.W.keepIn K (.ref f2) = true)
    (a3 : PySem.W.nsIn K mainGlobals "_is_pair" = some (some (.ref f3))) (l3 : K.lookup f3 = some ⟨oc3, od3, .func (PySem.W.fnOf "_is_pair" "_is_pair" (fnArgs sPIsPair) (fnBody sPIsPair) (fnScope sPIsPair) .none kV3 dc3 pm3 an3 cd3 ct3), sl3⟩) (c3 : PySem.W.codeIn K cd3 "_is_pair" = true) (k3 : PySem.W.keepIn K (.ref f3) = true)
    (a4 : PySem.W.nsIn K mainGlobals "names_in" = some (some (.ref f4))) (l4 : K.lookup f4 = some ⟨oc4, od4, .func (PySem.W.fnOf "names_in" "names_in" (fnArgs sPNamesIn) (fnBody sPNamesIn) (fnScope sPNamesIn) .none kV4 dc4 pm4 an4 cd4 ct4), sl4⟩) (c4 : PySem.W.codeIn K cd4 "names_in" = true) (k4 : PySem.W.keepIn K (.ref f4) = true)
    (a5 : PySem.W.nsIn K mainGlobals "_law_cell_at" = some (some (.ref f5))) (l5 : K.lookup f5 = some ⟨oc5, od5, .func (PySem.W.fnOf "_law_cell_at" "_law_cell_at" (fnArgs sLCellAt) (fnBody sLCellAt) (fnScope sLCellAt) .none kV5 dc5 pm5 an5 cd5 ct5), sl5⟩) (c5 : PySem.W.codeIn K cd5 "_law_cell_at" = true) (k5 : PySem.W.keepIn K (.ref f5) = true)
    (a6 : PySem.W.nsIn K mainGlobals "_law_pot" = some (some (.ref f6))) (l6 : K.lookup f6 = some ⟨oc6, od6, .func (PySem.W.fnOf "_law_pot" "_law_pot" (fnArgs sLPot) (fnBody sLPot) (fnScope sLPot) .none kV6 dc6 pm6 an6 cd6 ct6), sl6⟩) (c6 : PySem.W.codeIn K cd6 "_law_pot" = true) (k6 : PySem.W.keepIn K (.ref f6) = true)
    (a7 : PySem.W.nsIn K mainGlobals "_law_take" = some (some (.ref f7))) (l7 : K.lookup f7 = some ⟨oc7, od7, .func (PySem.W.fnOf "_law_take" "_law_take" (fnArgs sLTake) (fnBody sLTake) (fnScope sLTake) .none kV7 dc7 pm7 an7 cd7 ct7), sl7⟩) (c7 : PySem.W.codeIn K cd7 "_law_take" = true) (k7 : PySem.W.keepIn K (.ref f7) = true)
    (a8 : PySem.W.nsIn K mainGlobals "_law_called" = some (some (.ref f8))) (l8 : K.lookup f8 = some ⟨oc8, od8, .func (PySem.W.fnOf "_law_called" "_law_called" (fnArgs sLCalled) (fnBody sLCalled) (fnScope sLCalled) .none kV8 dc8 pm8 an8 cd8 ct8), sl8⟩) (c8 : PySem.W.codeIn K cd8 "_law_called" = true) (k8 : PySem.W.keepIn K (.ref f8) = true)
    (a9 : PySem.W.nsIn K mainGlobals "_law_kind" = some (some (.ref f9))) (l9 : K.lookup f9 = some ⟨oc9, od9, .func (PySem.W.fnOf "_law_kind" "_law_kind" (fnArgs sLKind) (fnBody sLKind) (fnScope sLKind) .none kV9 dc9 pm9 an9 cd9 ct9), sl9⟩) (c9 : PySem.W.codeIn K cd9 "_law_kind" = true) (k9 : PySem.W.keepIn K (.ref f9) = true)
    (a10 : PySem.W.nsIn K mainGlobals "_law_is_name" = some (some (.ref f10))) (l10 : K.lookup f10 = some ⟨oc10, od10, .func (PySem.W.fnOf "_law_is_name" "_law_is_name" (fnArgs sLIsName) (fnBody sLIsName) (fnScope sLIsName) .none kV10 dc10 pm10 an10 cd10 ct10), sl10⟩) (c10 : PySem.W.codeIn K cd10 "_law_is_name" = true) (k10 : PySem.W.keepIn K (.ref f10) = true)
    (a11 : PySem.W.nsIn K mainGlobals "_law_is_kind" = some (some (.ref f11))) (l11 : K.lookup f11 = some ⟨oc11, od11, .func (PySem.W.fnOf "_law_is_kind" "_law_is_kind" (fnArgs sLIsKind) (fnBody sLIsKind) (fnScope sLIsKind) .none kV11 dc11 pm11 an11 cd11 ct11), sl11⟩) (c11 : PySem.W.codeIn K cd11 "_law_is_kind" = true) (k11 : PySem.W.keepIn K (.ref f11) = true)
    (a12 : PySem.W.nsIn K mainGlobals "_law_other" = some (some (.ref f12))) (l12 : K.lookup f12 = some ⟨oc12, od12, .func (PySem.W.fnOf "_law_other" "_law_other" (fnArgs sLOther) (fnBody sLOther) (fnScope sLOther) .none kV12 dc12 pm12 an12 cd12 ct12), sl12⟩) (c12 : PySem.W.codeIn K cd12 "_law_other" = true) (k12 : PySem.W.keepIn K (.ref f12) = true)
    (a13 : PySem.W.nsIn K mainGlobals "_law_named" = some (some (.ref f13))) (l13 : K.lookup f13 = some ⟨oc13, od13, .func (PySem.W.fnOf "_law_named" "_law_named" (fnArgs sLNamed) (fnBody sLNamed) (fnScope sLNamed) .none kV13 dc13 pm13 an13 cd13 ct13), sl13⟩) (c13 : PySem.W.codeIn K cd13 "_law_named" = true) (k13 : PySem.W.keepIn K (.ref f13) = true)
    (a14 : PySem.W.nsIn K mainGlobals "_law_inner" = some (some (.ref f14))) (l14 : K.lookup f14 = some ⟨oc14, od14, .func (PySem.W.fnOf "_law_inner" "_law_inner" (fnArgs sLInner) (fnBody sLInner) (fnScope sLInner) .none kV14 dc14 pm14 an14 cd14 ct14), sl14⟩) (c14 : PySem.W.codeIn K cd14 "_law_inner" = true) (k14 : PySem.W.keepIn K (.ref f14) = true)
    (a15 : PySem.W.nsIn K mainGlobals "law" = some (some (.ref f15))) (l15 : K.lookup f15 = some ⟨oc15, od15, .func (PySem.W.fnOf "law" "law" (fnArgs sLaw) (fnBody sLaw) (fnScope sLaw) .none kV15 dc15 pm15 an15 cd15 ct15), sl15⟩) (c15 : PySem.W.codeIn K cd15 "law" = true) (k15 : PySem.W.keepIn K (.ref f15) = true)
    (z_isinstance : PySem.W.nsIn K mainGlobals "isinstance" = some none)
    (z_str : PySem.W.nsIn K mainGlobals "str" = some none)
    (z_tuple : PySem.W.nsIn K mainGlobals "tuple" = some none)
    (z_list : PySem.W.nsIn K mainGlobals "list" = some none)
    (z_bool : PySem.W.nsIn K mainGlobals "bool" = some none)
    (z_len : PySem.W.nsIn K mainGlobals "len" = some none)
    (z_range : PySem.W.nsIn K mainGlobals "range" = some none)
    (z_max : PySem.W.nsIn K mainGlobals "max" = some none)
    (z_min : PySem.W.nsIn K mainGlobals "min" = some none)
    (z_repr : PySem.W.nsIn K mainGlobals "repr" = some none)
    (gL : PySem.W.nsIn K mainGlobals "LONGEST_NAME" = some (some uL)) (gK : PySem.W.nsIn K mainGlobals "KEPT_WORDS" = some (some (.ref aK))) (lK : K.lookup aK = some ⟨.type "tuple", dK, .seq iK nK, sK⟩) (rL : RelV (.int 8) uL) (vK : Vals [.str "number", .str "truth", .str "yes", .str "no"] iK.toList) (hz : iK.size ≤ sizeLine) :
    ∃ fd : FuncData, (∀ (s : Shared) (v : Value), BindsTo s fd ⟨[v], []⟩ [("_law_script", v)]) ∧ ∀ base : Heap, K.In base → base.Ns mainGlobals mg → FnG l.prog w K mg base C8.CX0 16 fa fd ["_law_script"] (spLaw K) := by
  have e := hfa.symm.trans (PySem.W.mg_of X G a15)
  cases e
  have D1 := def_mk (st := sPIsName) X G a1 l1 c1 k1
  have D2 := def_mk (st := sPIsKind) X G a2 l2 c2 k2
  have D3 := def_mk (st := sPIsPair) X G a3 l3 c3 k3
  have D4 := def_mk (st := sPNamesIn) X G a4 l4 c4 k4
  have D5 := def_mk (st := sLCellAt) X G a5 l5 c5 k5
  have D6 := def_mk (st := sLPot) X G a6 l6 c6 k6
  have D7 := def_mk (st := sLTake) X G a7 l7 c7 k7
  have D8 := def_mk (st := sLCalled) X G a8 l8 c8 k8
  have D9 := def_mk (st := sLKind) X G a9 l9 c9 k9
  have D10 := def_mk (st := sLIsName) X G a10 l10 c10 k10
  have D11 := def_mk (st := sLIsKind) X G a11 l11 c11 k11
  have D12 := def_mk (st := sLOther) X G a12 l12 c12 k12
  have D13 := def_mk (st := sLNamed) X G a13 l13 c13 k13
  have D14 := def_mk (st := sLInner) X G a14 l14 c14 k14
  have D15 := def_mk (st := sLaw) X G a15 l15 c15 k15
  have b1 := D1.fn.binds rfl (ps := ["thing"]) fun _ _ _ _ _ _ us hl => match us, hl with | [_], _ => rfl
  have b2 := D2.fn.binds rfl (ps := ["thing"]) fun _ _ _ _ _ _ us hl => match us, hl with | [_], _ => rfl
  have b3 := D3.fn.binds rfl (ps := ["thing", "word"]) fun _ _ _ _ _ _ us hl => match us, hl with | [_, _], _ => rfl
  have b4 := D4.fn.binds rfl (ps := ["kind"]) fun _ _ _ _ _ _ us hl => match us, hl with | [_], _ => rfl
  have b5 := D5.fn.binds rfl (ps := ["_law_script", "_law_k"]) fun _ _ _ _ _ _ us hl => match us, hl with | [_, _], _ => rfl
  have b6 := D6.fn.binds rfl (ps := ["_law_cell", "_law_k"]) fun _ _ _ _ _ _ us hl => match us, hl with | [_, _], _ => rfl
  have b7 := D7.fn.binds rfl (ps := ["_law_pot_here", "_law_many"]) fun _ _ _ _ _ _ us hl => match us, hl with | [_, _], _ => rfl
  have b8 := D8.fn.binds rfl (ps := ["_law_pot_here"]) fun _ _ _ _ _ _ us hl => match us, hl with | [_], _ => rfl
  have b9 := D9.fn.binds rfl (ps := ["_law_pot_here", "_law_deep"]) fun _ _ _ _ _ _ us hl => match us, hl with | [_, _], _ => rfl
  have b10 := D10.fn.binds rfl (ps := ["_law_thing"]) fun _ _ _ _ _ _ us hl => match us, hl with | [_], _ => rfl
  have b11 := D11.fn.binds rfl (ps := ["_law_thing"]) fun _ _ _ _ _ _ us hl => match us, hl with | [_], _ => rfl
  have b12 := D12.fn.binds rfl (ps := ["_law_pot_here", "_law_kind_here"]) fun _ _ _ _ _ _ us hl => match us, hl with | [_, _], _ => rfl
  have b13 := D13.fn.binds rfl (ps := ["_law_pot_here"]) fun _ _ _ _ _ _ us hl => match us, hl with | [_], _ => rfl
  have b14 := D14.fn.binds rfl (ps := ["_law_kind_here"]) fun _ _ _ _ _ _ us hl => match us, hl with | [_], _ => rfl
  have T : Tp mg := ⟨PySem.W.mg_none_of X G z_isinstance, PySem.W.mg_none_of X G z_str, PySem.W.mg_none_of X G z_tuple, PySem.W.mg_none_of X G z_list, PySem.W.mg_none_of X G z_bool, PySem.W.mg_none_of X G z_len, PySem.W.mg_none_of X G z_range, PySem.W.mg_none_of X G z_max, PySem.W.mg_none_of X G z_min, PySem.W.mg_none_of X G z_repr, ⟨uL, PySem.W.mg_of X G gL, rL⟩⟩
  have TK : Kept K mg aK := ⟨⟨_, PySem.W.mg_of X G gK, rfl⟩, fun H => .inr ⟨_, iK, nK, lK, rfl, rfl, hz, vK⟩⟩
  refine ⟨PySem.W.fnOf "law" "law" (fnArgs sLaw) (fnBody sLaw) (fnScope sLaw) .none kV15 dc15 pm15 an15 cd15 ct15, fun s v => .of_eq rfl, fun base _ _ => ?_⟩
  have cTake := c_take (P := l.prog) (w := w) (base := base) D7 b7
  have cCalled := c_called T cTake D8 b8
  have cIsName := c_isName (P := l.prog) (w := w) (base := base) T TK D1 b1
  have cIsPair := c_isPair (P := l.prog) (w := w) (base := base) T D3 b3
  have cLIsName := c_lisName (P := l.prog) (w := w) (base := base) T D10 b10
  exact f_law T (c_cellAt T D5 b5) (c_pot D6 b6) (c_kind T cTake cCalled D9 b9 9) (c_namesIn 9 D4 b4) (c_isKind T cIsPair cIsName D2 b2) (c_inner T D14 b14 9) (c_other T cTake cCalled D12 b12) (c_lisKind T cLIsName D11 b11 14) (c_named T cTake cCalled D13 b13) cIsName cLIsName D15
end K11
open PySem PySem.W PyProof.Rows
set_option maxHeartbeats 0 in
theorem PySem.Challenge.cw_changewhile_k11_kinds_told_holds : PySem.Challenge.rw_changewhile_k11_kinds_told.Holds := by
  w_on; o_law; k_head; (case hw => w_witness2)
  k_fill
  refine L2.walkG (l := PySem.Challenge.rw_changewhile_k11_kinds_told) (n := 63) (k := 16) (x := "_law_script") (sp := K11.spLaw) rfl (by decide) rfl ⟨rfl, by decide, by decide⟩ (fun w h Y => PySem.W.kIn_of Y) ?F (fun K H a ns hl _ hS => ⟨a, ns, rfl, hS, hl, fun _ => rfl⟩)
  case F =>
    intro w mg fa h KX G hmg
    refine' K11.all_mk KX G hmg ?a1 ?l1 ?c1 ?k1 ?a2 ?l2 ?c2 ?k2 ?a3 ?l3 ?c3 ?k3 ?a4 ?l4 ?c4 ?k4 ?a5 ?l5 ?c5 ?k5 ?a6 ?l6 ?c6 ?k6 ?a7 ?l7 ?c7 ?k7 ?a8 ?l8 ?c8 ?k8 ?a9 ?l9 ?c9 ?k9 ?a10 ?l10 ?c10 ?k10 ?a11 ?l11 ?c11 ?k11 ?a12 ?l12 ?c12 ?k12 ?a13 ?l13 ?c13 ?k13 ?a14 ?l14 ?c14 ?k14 ?a15 ?l15 ?c15 ?k15 ?z_isinstance ?z_str ?z_tuple ?z_list ?z_bool ?z_len ?z_range ?z_max ?z_min ?z_repr ?gL ?gK ?lK ?rL ?vK ?hz
    (case a1 => k_is); (case l1 => k_is); (case c1 => k_is); (case k1 => k_is); (case a2 => k_is); (case l2 => k_is); (case c2 => k_is); (case k2 => k_is); (case a3 => k_is); (case l3 => k_is); (case c3 => k_is); (case k3 => k_is); (case a4 => k_is); (case l4 => k_is); (case c4 => k_is); (case k4 => k_is); (case a5 => k_is); (case l5 => k_is); (case c5 => k_is); (case k5 => k_is); (case a6 => k_is); (case l6 => k_is); (case c6 => k_is); (case k6 => k_is); (case a7 => k_is); (case l7 => k_is); (case c7 => k_is); (case k7 => k_is); (case a8 => k_is); (case l8 => k_is); (case c8 => k_is); (case k8 => k_is); (case a9 => k_is); (case l9 => k_is); (case c9 => k_is); (case k9 => k_is); (case a10 => k_is); (case l10 => k_is); (case c10 => k_is); (case k10 => k_is); (case a11 => k_is); (case l11 => k_is); (case c11 => k_is); (case k11 => k_is); (case a12 => k_is); (case l12 => k_is); (case c12 => k_is); (case k12 => k_is); (case a13 => k_is); (case l13 => k_is); (case c13 => k_is); (case k13 => k_is); (case a14 => k_is); (case l14 => k_is); (case c14 => k_is); (case k14 => k_is); (case a15 => k_is); (case l15 => k_is); (case c15 => k_is); (case k15 => k_is); (case z_isinstance => k_is); (case z_str => k_is); (case z_tuple => k_is); (case z_list => k_is); (case z_bool => k_is); (case z_len => k_is); (case z_range => k_is); (case z_max => k_is); (case z_min => k_is); (case z_repr => k_is); (case gL => k_is); (case gK => k_is); (case lK => k_is)
    (case rL => exact ⟨_, rfl⟩)
    (case vK => exact .cons ⟨_, rfl⟩ (.cons ⟨_, rfl⟩ (.cons ⟨_, rfl⟩ (.cons ⟨_, rfl⟩ .nil))))
    (case hz => rw [sizeLine_eq]; decide)
