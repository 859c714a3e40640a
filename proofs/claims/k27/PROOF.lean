import PyProof.Rows.All
import Wide.All
import OpenK.AllK
import Wide.FinOn
import HandS.ForMost
import HandS.ForExc
import HandS.Wide
import HandS.IsInst
import HandS.Deep
import HandS.Strs
import HandS.TupAny
import HandS.Walk
import KE.GoesNew
import KE.KUnpackStar
import HandS.ExcValue
import HandS.ExcField
import HandS.RaiseMore
import KE.KOpsOwn
import HandS.TupLe
import HandS.TupMul
import HandS.Dict
import HandS.TryMany
import KE.KExcSuper
import KE.KSuper
import HandS.Text
import HandS.Style
import HandS.More
import KE.KDictKeyed
import KE.KeyNested
import HandS.ExcOwn
import KE.KExcIs
import PySem.Challenge.RW_lettersdesk_k27_deeds_refused
import HandS.DictComp
set_option Elab.async false
set_option linter.all false
set_option maxRecDepth 100000
set_option maxHeartbeats 2000000
/-! Lib, part A: a def of the text with its promise in one word; rules for what stands at names, wide numbers, unions of rules. -/
namespace Ld
open PySem PySem.Spec PyProof.Rows L2

/-! ### a def, a method, a class, each with its promise -/
/-- the function that stands there -/
def LkF (K : PySem.W.Frag) (f : Addr) (fd : FuncData) : Prop := ∃ oc od osl, K.lookup f = some ⟨oc, od, .func fd, osl⟩
theorem LkF.inj {K : PySem.W.Frag} {f : Addr} {fd fd' : FuncData} (h : LkF K f fd) (h' : LkF K f fd') : fd = fd' := by
  obtain ⟨oc, od, osl, e⟩ := h
  obtain ⟨oc', od', osl', e'⟩ := h'
  rw [e] at e'
  injection e' with e'
  injection e' with _ _ e' _
  injection e'
structure FnAt (K : PySem.W.Frag) (mg : Str → Option Value) (x : Str) (st : Stmt) (ps : List Str) : Prop where
  ex : ∃ f fd, mg x = some (.ref f) ∧ Fun K x x st f fd ∧ Binds K fd ps []
structure DefOk (P : Program) (w : World) (K : PySem.W.Frag) (mg : Str → Option Value) (base : Heap) (x : Str) (ps : List Str) (k : Nat) (sp : Sp) : Prop where
  ex : ∃ f fd, mg x = some (.ref f) ∧ PySem.W.keepIn K (.ref f) = true ∧ Binds K fd ps [] ∧ FnOk P w K mg base (L2.CX P w) k f fd ps sp ∧ LkF K f fd
structure MethAt (K : PySem.W.Frag) (C : Addr) (m qual : Str) (st : Stmt) (ps : List Str) : Prop where
  ex : ∃ f fd, Meth K C m f ∧ Fun K m qual st f fd ∧ Binds K fd ps []
structure MethOk (P : Program) (w : World) (K : PySem.W.Frag) (mg : Str → Option Value) (base : Heap) (C : Addr) (m : Str) (ps : List Str) (k : Nat) (sp : Sp) : Prop where
  cls : Cls K C
  ex : ∃ f fd, Meth K C m f ∧ Binds K fd ps [] ∧ FnOk P w K mg base (L2.CX P w) k f fd ps sp ∧ LkF K f fd
structure InitAt (K : PySem.W.Frag) (mg : Str → Option Value) (C : Addr) (x qual : Str) (st : Stmt) (ps : List Str) : Prop where
  cls : Cls K C
  glob : mg x = some (.ref C)
  ex : ∃ f fd, Mk K C f ∧ Fun K "__init__" qual st f fd ∧ Binds K fd ps []
structure MakeOk (P : Program) (w : World) (K : PySem.W.Frag) (mg : Str → Option Value) (base : Heap) (C : Addr) (x : Str) (ps : List Str) (k : Nat) (sp : Sp) : Prop where
  glob : mg x = some (.ref C)
  ex : ∃ f fd, Mk K C f ∧ Binds K fd ps [] ∧ FnOk P w K mg base (L2.CX P w) k f fd ps sp ∧ LkF K f fd

section
variable {P : Program} {w : World} {K : PySem.W.Frag} {mg : Str → Option Value} {base : Heap} {x qual : Str} {st : Stmt} {N ps : List Str} {k : Nat} {sp : Sp} {C : Addr}
/-- what a body's derivation and reading must give -/
def Body (P : Program) (w : World) (K : PySem.W.Frag) (mg : Str → Option Value) (base : Heap) (qual : Str) (st : Stmt) (N : List Str) (k : Nat) (sp : Sp) : Prop :=
  ∀ (f : Addr) (cdv : Value) (A : Around) (outer : List Env) (s : Shared) (H : Hp) (vs : List V) (Q : VK) (E : XK), Room k (A.deeper (envOfC qual (defScope st) s.heap.objs.size f cdv)) → sp vs H Q E →
    ∃ t, PSs (cxOf (L2.CX P w) P w K mg base N qual (defScope st) f cdv A outer s H E) (defBody st) t ∧ t { nx := fun _ H' => Q .non H', rt := Q } (start N vs) H
theorem _root_.L2.Fun.lkF {f : Addr} {fd : FuncData} (F : Fun K x qual st f fd) : LkF K f fd := by
  obtain ⟨oc, od, kV, doc, pm, an, cdv, ct, osl, e, l, _⟩ := F.ex
  exact ⟨oc, od, osl, l⟩
theorem FnAt.ok (F : FnAt K mg x st ps) (S : FnScope N ps (defScope st)) (len : ∀ vs H Q E, sp vs H Q E → vs.length = ps.length) (b : Body P w K mg base x st N k sp) : DefOk P w K mg base x ps (k + 1) sp := by
  obtain ⟨f, fd, hm, hf, hb⟩ := F.ex
  exact ⟨f, fd, hm, hf.kp, hb, hf.okX S len fun cdv A outer s H vs Q E hr h => b f cdv A outer s H vs Q E hr h, hf.lkF⟩
theorem MethAt.ok {m : Str} (F : MethAt K C m qual st ps) (c : Cls K C) (S : FnScope N ps (defScope st)) (len : ∀ vs H Q E, sp vs H Q E → vs.length = ps.length) (b : Body P w K mg base qual st N k sp) : MethOk P w K mg base C m ps (k + 1) sp := by
  obtain ⟨f, fd, hm, hf, hb⟩ := F.ex
  exact ⟨c, f, fd, hm, hb, hf.okX S len fun cdv A outer s H vs Q E hr h => b f cdv A outer s H vs Q E hr h, hf.lkF⟩
theorem InitAt.ok (F : InitAt K mg C x qual st ps) (S : FnScope N ps (defScope st)) (len : ∀ vs H Q E, sp vs H Q E → vs.length = ps.length) (b : Body P w K mg base qual st N k sp) : MakeOk P w K mg base C x ps (k + 1) sp := by
  obtain ⟨f, fd, hm, hf, hb⟩ := F.ex
  exact ⟨F.glob, f, fd, hm, hb, hf.okX S len fun cdv A outer s H vs Q E hr h => b f cdv A outer s H vs Q E hr h, hf.lkF⟩
theorem DefOk.mono {j : Nat} (D : DefOk P w K mg base x ps j sp) (h : j ≤ k) : DefOk P w K mg base x ps k sp := by
  obtain ⟨f, fd, a, b, c, d, l⟩ := D.ex
  exact ⟨f, fd, a, b, c, d.mono h, l⟩
theorem DefOk.imp {sp' : Sp} (D : DefOk P w K mg base x ps k sp) (h : ∀ vs H Q E, sp' vs H Q E → sp vs H Q E) : DefOk P w K mg base x ps k sp' := by
  obtain ⟨f, fd, a, b, c, d, l⟩ := D.ex
  exact ⟨f, fd, a, b, c, d.imp h, l⟩
theorem MethOk.mono {j : Nat} {m : Str} (D : MethOk P w K mg base C m ps j sp) (h : j ≤ k) : MethOk P w K mg base C m ps k sp := by
  obtain ⟨c, f, fd, a, b, d, l⟩ := D
  exact ⟨c, f, fd, a, b, d.mono h, l⟩
theorem MakeOk.mono {j : Nat} (D : MakeOk P w K mg base C x ps j sp) (h : j ≤ k) : MakeOk P w K mg base C x ps k sp := by
  obtain ⟨g, f, fd, a, b, d, l⟩ := D
  exact ⟨g, f, fd, a, b, d.mono h, l⟩
end
section
variable {X : Cx} {x m : Str} {ps : List Str} {k : Nat} {sp : Sp} {E : XK} {C : Addr} {p pos apos : Pos} {e o : Expr} {es : List Expr} {t : TA} {ta : TE}
theorem pe_callD (D : DefOk X.prog X.w X.K X.mg X.base x ps k sp) {n : Nat} (hr : Room n X.A) (hg : Gl X x) (hx : Passes (L2.CX X.prog X.w) X E) (ha : PA X (e :: es) t) (hk : k ≤ n := by omega)
    (hdb : (x == ("__debug__" : Str)) = false := by decide) (he : starEach (e :: es) X.env = (false, eval e X.env) :: starEach es X.env := by rfl) (hpl : (backTo pos (starEach es X.env)).any (·.1) = false := by rfl) :
    PE X (.Call (.Name x p) (e :: es) [] pos) (tCall sp [] E t) := by
  obtain ⟨f, fd, hm, kp, hb, F, _⟩ := D.ex
  exact pe_call F (hr.mono hk) hg hm kp hb .nil hx ha hdb he hpl
theorem pe_methD {pl : Sem Bool} (D : MethOk X.prog X.w X.K X.mg X.base C m ps k sp) {n : Nat} (hr : Room n X.A) (he : PE X o ta) (hx : Passes (L2.CX X.prog X.w) X E) (ha : PA X (e :: es) t) (hk : k ≤ n := by omega)
    (hst : starEach (e :: es) X.env = (false, eval e X.env) :: starEach es X.env := by rfl) (hpl : (backTo pos (starEach es X.env)).any (·.1) = false := by rfl)
    (ht : eval (.Call (.Attribute o m apos) (e :: es) [] pos) X.env = (do
      let ov ← eval o X.env
      standAt apos.atName
      let (f, first) ← holding [ov] (getMethod ov m pl)
      callWith pos f first (backTo pos (starEach (e :: es) X.env)) (backToKw pos (keywordEach [] X.env))) := by rfl) :
    PE X (.Call (.Attribute o m apos) (e :: es) [] pos) (tMeth C m sp [] E ta t) := by
  obtain ⟨c, f, fd, hm, hb, F, _⟩ := D
  exact pe_meth he c hm F (hr.mono hk) hb .nil hx ha hst hpl ht
theorem pe_methD0 {pl : Sem Bool} (D : MethOk X.prog X.w X.K X.mg X.base C m ps k sp) {n : Nat} (hr : Room n X.A) (he : PE X o ta) (hx : Passes (L2.CX X.prog X.w) X E) (hk : k ≤ n := by omega)
    (ht : eval (.Call (.Attribute o m apos) [] [] pos) X.env = (do
      let ov ← eval o X.env
      standAt apos.atName
      let (f, first) ← holding [ov] (getMethod ov m pl)
      callWith pos f first (backTo pos (starEach [] X.env)) (backToKw pos (keywordEach [] X.env))) := by rfl) :
    PE X (.Call (.Attribute o m apos) [] [] pos) (tMeth C m sp [] E ta tNil) := by
  obtain ⟨c, f, fd, hm, hb, F, _⟩ := D
  exact pe_meth0 he c hm F (hr.mono hk) hb .nil hx ht
theorem pe_makeD (D : MakeOk X.prog X.w X.K X.mg X.base C x ps k sp) {n : Nat} (hr : Room n X.A) (hg : Gl X x) (hx : Passes (L2.CX X.prog X.w) X E) (ha : PA X (e :: es) t) (hk : k + 1 ≤ n := by omega)
    (hdb : (x == ("__debug__" : Str)) = false := by decide) (he : starEach (e :: es) X.env = (false, eval e X.env) :: starEach es X.env := by rfl) (hpl : (backTo pos (starEach es X.env)).any (·.1) = false := by rfl) :
    PE X (.Call (.Name x p) (e :: es) [] pos) (tMake C sp [] E t) := by
  obtain ⟨hm, f, fd, M, hb, F, _⟩ := D
  exact pe_make M F (hr.mono hk) hg hm hb .nil hx ha hdb he hpl
/-- a module's constant -/
theorem pe_globE {v : V} (hg : Gl X x) (h : ∃ u, X.mg x = some u ∧ RelV v u) (hd : (x == ("__debug__" : Str)) = false := by decide) : PE X (.Name x pos) (tC v) := by
  obtain ⟨u, hm, r⟩ := h
  exact pe_glob hg hm r hd
/-- a built-in class as a value -/
theorem pe_ty {n : String} (hm : X.mg x = none) (hg : Gl X x := by rfl) (hv : bootBuiltins x = some (.type n) := by decide +kernel) (hn : x ≠ "__name__" := by decide) (hd : (x == ("__debug__" : Str)) = false := by decide) : PE X (.Name x pos) (tC (.ty n)) :=
  pe_bltn hg hm hv rfl hn hd
end

/-! ### operators on whatever stands there -/
section
variable {X : Cx}
def rAddS : R2 := fun x y H Q => ∃ i j, x = .str i ∧ y = .str j ∧ i.length + j.length ≤ sizeLine ∧ Q (.str (i ++ j)) H
theorem uAdd : OpR X (binaryOp .Add) (fun x y H Q => rI0 (fun i j => .int (i + j)) x y H Q ∨ rCat x y H Q ∨ rCatA X.K x y H Q) := op_add.or (op_cat.or op_catA)
theorem uMul : OpR X (binaryOp .Mult) (fun x y H Q => rI CMulW (fun i j => .int (i * j)) x y H Q ∨ rRep x y H Q) := op_mulW.or op_rep
def CPowW (i j : Int) : Prop := 0 ≤ j ∧ (Builtin.Int.intBits i : Int) * j ≤ 2 ^ 27
theorem uPow : OpR X (binaryOp .Pow) (rI CPowW fun i j => .int (i ^ j.toNat)) := opI fun _ _ _ _ _ _ _ hc q => pow_int hc.1 hc.2 q
theorem uEq (hu : X.A.units + 64 < cLine) : OpR X (compareOp .Eq) (fun x y H Q => rEq x y H Q ∨ rEqD X.K x y H Q) := op_eq.or (op_eqD hu)
theorem uNe (hu : X.A.units + 64 < cLine) : OpR X (compareOp .NotEq) (fun x y H Q => rNe x y H Q ∨ rNeD X.K x y H Q) := op_ne.or (op_neD hu)
theorem uIn : OpR X (compareOp .In) (fun x y H Q => rIn X.K false x y H Q ∨ (∃ (c : Nat) (z : Str), x = .str ⟨#[c]⟩ ∧ y = .str z ∧ Q (.bl (decide (c ∈ z.cps.toList))) H)) := op_in_seq.or op_in_sign
theorem uNotIn : OpR X (compareOp .NotIn) (rIn X.K true) := op_notIn_seq
end
end Ld

set_option Elab.async false
set_option linter.all false
set_option maxRecDepth 100000
set_option maxHeartbeats 2000000
/-! Lib, part B: what the layer lacks: enumerate over a tuple, zip of a tuple and a list, a target with a star, a field as a target, slices of all kinds. -/
namespace Ld
open PySem PySem.Spec PyProof.Rows L2

/-! ### enumerate(t), t a tuple -/
def ItEt (K : PySem.W.Frag) (a : Addr) : It where
  go := fun i H => ∃ (xs : List V) (x : V), SqT K H a xs ∧ xs[i]? = some x
  yld := fun i H v H' => ∃ T x, v = .ref T ∧ H T = none ∧ H' = upd H T (.tup [.int (i : Nat), x]) ∧ ∀ xs, SqT K H a xs → xs[i]? = some x
  stop := fun i H => ∃ xs : List V, SqT K H a xs ∧ xs.length = i
theorem turnEt {P : Program} {w : World} {K : PySem.W.Frag} {elts : List Expr} {kk : Nat} {tpos : Pos} (a e it : Addr) (hea : e ≠ a) (hia : a ≠ it) :
    Turn P w K (.Tuple elts kk tpos) (ItEt K a) [e, it] e (fun i h => (∃ old, IsEnum h e it (i : Int) old) ∧ h.IsTupleIter it a i ∧ e ≠ it) where
  mem := List.mem_cons_self
  obj := fun i h st b hb => by
    obtain ⟨⟨old, h1⟩, ⟨o, h2, _, h3⟩, _⟩ := st
    rcases List.mem_cons.mp hb with z | hb
    · subst z
      exact ⟨_, h1, fun v q => nomatch q⟩
    · have z := List.mem_singleton.mp hb
      subst z
      exact ⟨o, h2, fun v q => by rw [h3] at q; cases q⟩
  keep := fun i h h' ⟨⟨old, h1⟩, h2, h3⟩ kp => ⟨⟨old, kp e List.mem_cons_self _ h1⟩, h2.at fun o q => kp it (List.mem_cons_of_mem _ List.mem_cons_self) o q, h3⟩
  item := by
    intro X eP ew eK hc i pins s σ H E I hf st hg
    subst eP ew eK
    obtain ⟨⟨old, h1⟩, h2, h3⟩ := st
    obtain ⟨xs, x, hq, hx⟩ := hg
    obtain ⟨its, rv, tp, hz⟩ := I.tuple hq
    obtain ⟨u, hu, ru⟩ := rv.get hx
    have le : e < s.heap.objs.size := Heap.lt_size h1
    have li : it < s.heap.objs.size := by obtain ⟨_, q, _⟩ := h2; exact Heap.lt_size q
    have hlt : i < its.toArray.size := by
      have := (List.getElem?_eq_some_iff.mp hu).1
      simpa using this
    have D := Draws.tuple (prog := X.prog) (w := X.w) (A := X.A.in1) (show X.A.in1.handled = none from I.ok.hd hc) it a hia its.toArray
    refine wpAny_pyNext_enum_itemC D h1 ⟨h2, tp⟩ hlt h3 (by simp [h3, hea]) fun y h' tk hy ho hs' hT hsz kp => ?_
    have ey : y = u := by
      have q : its[i]? = some y := by simpa using hy
      exact Option.some.inj (q.symm.trans hu)
    subst ey
    refine ⟨_, rfl, wpAny_letOwnedTupleGo_enum (s := { s with heap := h', toks := tk + 1 }) ho fun h'' he' sb => ?_⟩
    have hT2 : h''.get? s.heap.objs.size = some { cls := .type "tuple", data := .seq #[.int i tk, y] } := (sb.2 _ (Nat.ne_of_gt le)).trans hT
    have new : ObjOk X.prog X.w (upd H s.heap.objs.size (.tup [.int (i : Nat), x])) h'' s.heap.objs.size (.tup [.int (i : Nat), x]) :=
      ⟨(show 2 ≤ sizeLine by decide), [.int i tk, y], Paired.cons ⟨_, rfl⟩ (Paired.cons ru .nil), ⟨_, hT2, rfl, _, rfl⟩⟩
    have I1 := I.turnedNew (t' := tk + 1) (ch := [e, it]) (h' := h'') (fun b o hb q => (sb.2 b (fun z => hb (z ▸ List.mem_cons_self))).trans (kp b o (fun z => hb (z ▸ List.mem_cons_self)) (fun z => hb (z ▸ List.mem_cons_of_mem _ List.mem_cons_self)) q)) hf (Nat.le_refl _) new
    refine ⟨.ref s.heap.objs.size, _, I1, rfl, ⟨_, x, rfl, I.hok.fresh (Nat.le_refl _), rfl, fun ys hy' => (I.tuple_inj hy' hq) ▸ hx⟩, ⟨⟨y, ?_⟩, hs'.1.at fun o q => (sb.2 it (Ne.symm h3)).trans q, h3⟩, fun b hb => ?_⟩
    · have e1 : ((i + 1 : Nat) : Int) = (i : Int) + 1 := by omega
      rw [e1]
      exact he'
    · have lb : b < s.heap.objs.size := by
        rcases List.mem_cons.mp hb with z | hb
        · exact z ▸ le
        · exact (List.mem_singleton.mp hb) ▸ li
      rw [upd_ne (Nat.ne_of_lt lb)]
      exact (hf b hb).1
  done := by
    intro X eP ew eK hc i pins s σ H E I hf st hg
    subst eP ew eK
    obtain ⟨⟨old, h1⟩, h2, h3⟩ := st
    obtain ⟨xs, hq, hx⟩ := hg
    obtain ⟨its, rv, tp, hz⟩ := I.tuple hq
    have hl : its.toArray.size = i := by rw [← hx, List.size_toArray]; exact rv.length.symm
    subst hl
    have D := Draws.tuple (prog := X.prog) (w := X.w) (A := X.A.in1) (show X.A.in1.handled = none from I.ok.hd hc) it a hia its.toArray
    obtain ⟨f0, f1, f2, f3, f4, f5⟩ := hf it (List.mem_cons_of_mem _ List.mem_cons_self)
    exact wpAny_pyNext_enum_endD D h1 ⟨h2, tp⟩ fun h' eb => ⟨rfl, I.turned (t' := s.toks) (fun b o hb q => eb b o hb q) f0 f1 f3 f4 f5⟩
  self := fun A i s Q E st h => by
    obtain ⟨⟨old, h1⟩, _⟩ := st
    exact wpAny_pyIter_enum h1 h

section
variable {prog : Program} {w : World} {A : Around} {E : Value → Shared → Prop} {s : Shared}
set_option maxHeartbeats 1000000 in
/-- enumerate(t)'s making -/
theorem meets_enumT (a : Addr) (items : Array Value) :
    Meets (Builtin.«enumerate.__new__» ⟨[.type "enumerate", .ref a], []⟩) (fun _ R s => s.heap.IsTuple a items ∧
      R (.ok (.ret (.ref (s.heap.push { cls := .type "tuple_iterator", data := .fields #[.ref a, .int 0 0] }).objs.size)))
        { s with heap := (s.heap.push { cls := .type "tuple_iterator", data := .fields #[.ref a, .int 0 0] }).push { cls := .type "enumerate", data := .fields #[.none, .bool false, .ref s.heap.objs.size, rawInt 0, .none, .none] } }) :=
  .of_wp fun prog w A R s ht => by
    obtain ⟨hh, gg, dd, tt, oo⟩ := s
    obtain ⟨h1, h2⟩ := ht
    have sub := sub_enumerate
    obtain ⟨⟨oc, odc, odt, osl⟩, hl, hc, n, hd⟩ := id h1
    have go : ∀ {A' : Around} {E : Value → Shared → Prop} {Q : Value → Shared → Prop}, Q (.ref hh.objs.size) ⟨hh.push { cls := .type "tuple_iterator", data := .fields #[.ref a, .int 0 0] }, gg, dd, tt, oo⟩ → wpAny (model prog w) A' (pyIter (.ref a)) Q E ⟨hh, gg, dd, tt, oo⟩ :=
      fun q => wpAny_pyIter_tuple (s := ⟨hh, gg, dd, tt, oo⟩) h1 q
    wp_walk using go, AutoSeq1.wpAny_loadPart' hl
    refine wpAny_stack_any fun st => wpAny_pure ?_
    split
    · rename_i c _ _ _ _ _
      cases (c == Value.type "enumerate") <;> (wp_walk using go, AutoSeq1.wpAny_loadPart' hl; exact ⟨_, rfl, h2⟩)
    · wp_walk using go, AutoSeq1.wpAny_loadPart' hl
      exact ⟨_, rfl, h2⟩
theorem call_enumT {a : Addr} {items : Array Value} {Q : Value → Shared → Prop} (ht : s.heap.IsTuple a items)
    (h : ∀ h', IsEnum h' (s.heap.objs.size + 1) s.heap.objs.size 0 .none → h'.IsTupleIter s.heap.objs.size a 0 → (∀ b o, s.heap.get? b = some o → h'.get? b = some o) → Q (.ref (s.heap.objs.size + 1)) { s with heap := h' }) :
    wpAny (model prog w) A (call (.type "enumerate") [.ref a]) Q E s := by
  refine callType_new F.called_enumerate (by decide) (F.typeCall_enumerate_1 _) (F.newCall_enumerate_1 _) (fun ob => F.args_object_init_2 ob _) F.entry_enumerate_new (meets_enumT a items) ⟨ht, ?_⟩
  have hz : (s.heap.push { cls := .type "tuple_iterator", data := .fields #[.ref a, .int 0 0] }).objs.size = s.heap.objs.size + 1 := Heap.size_push ..
  have he := Heap.get?_push_size (s.heap.push { cls := .type "tuple_iterator", data := .fields #[.ref a, .int 0 0] }) (o := { cls := .type "enumerate", data := .fields #[.none, .bool false, .ref s.heap.objs.size, rawInt 0, .none, .none] }) rfl
  rw [hz] at he
  show _ ∧ _
  rw [hz]
  exact ⟨⟨_, he, rfl⟩, h _ he ⟨_, Heap.get?_push_of_some _ (Heap.get?_push_size _ rfl), rfl, rfl⟩ fun b o x => Heap.get?_push_of_some _ (Heap.get?_push_of_some _ x)⟩
end
def iEnumT (K : PySem.W.Frag) (ta : TA) : TI := fun σ H R => ta σ H fun vs H1 => ∃ a xs, vs = [.ref a] ∧ SqT K H1 a xs ∧ R (ItEt K a) H1
theorem PI.or {X : Cx} {tg it : Expr} {w1 w2 : TI} (h1 : PI X tg it w1) (h2 : PI X tg it w2) : PI X tg it (fun σ H R => w1 σ H R ∨ w2 σ H R) :=
  ⟨fun pins s σ H R I h => h.elim (fun q => h1.run pins s σ H R I q) fun q => h2.run pins s σ H R I q⟩
section
variable {X : Cx} {e : Expr} {ta : TA} {p pos tpos : Pos} {elts : List Expr} {kk : Nat}
theorem pi_enumT (hg : Gl X "enumerate") (hm : X.mg "enumerate" = none) (ha : PA X [e] ta) (hs : starEach [e] X.env = [(false, eval e X.env)] := by rfl) :
    PI X (.Tuple elts kk tpos) (.Call (.Name "enumerate" p) [e] [] pos) (iEnumT X.K ta) := by
  refine ⟨fun pins s σ H R I hw => Call_ (ld_blt I hg hm boot_enumerate (PyProof.Rows.callWith_type1 (thn (ha.run pos pins s σ H _ I hw) fun us s1 hu => ?_) hs rfl))⟩
  obtain ⟨vs, H1, I1, r1, a, xs, rfl, hq, q⟩ := hu
  obtain ⟨u, rfl, ru⟩ := vals1 r1
  cases (show u = Value.ref a from ru)
  obtain ⟨its, rv, tp, hz⟩ := I1.tuple hq
  have la : a < s1.heap.objs.size := tp.lt
  refine call_enumT (show s1.heap.IsTuple a its.toArray from tp) fun h' he hit hk => wpAny_pyIter_enum he ?_
  have n1 : s1.heap.objs.size + 1 ≠ a := fun z => absurd la (by rw [← z]; exact Nat.not_lt.mpr (Nat.le_succ _))
  have n2 : a ≠ s1.heap.objs.size := Nat.ne_of_lt la
  refine ⟨s1.heap.objs.size + 1, [s1.heap.objs.size + 1, s1.heap.objs.size], _, _, H1, rfl, I1.kept (t' := s1.toks) hk, turnEt a (s1.heap.objs.size + 1) s1.heap.objs.size n1 n2, ⟨⟨.none, he⟩, hit, Nat.succ_ne_self _⟩, fun b hb => ?_, q⟩
  have hle : s1.heap.objs.size ≤ b := by
    rcases List.mem_cons.mp hb with z | hb
    · rw [z]
      exact Nat.le_succ _
    · rw [List.mem_singleton.mp hb]
      exact Nat.le_refl _
  exact I1.fpOk hle (I1.hok.fresh hle)
/-- enumerate of a list or of a tuple -/
theorem uEnum (hg : Gl X "enumerate") (hm : X.mg "enumerate" = none) (ha : PA X [e] ta) (hs : starEach [e] X.env = [(false, eval e X.env)] := by rfl) :
    PI X (.Tuple elts kk tpos) (.Call (.Name "enumerate" p) [e] [] pos) (fun σ H R => iEnum X.K ta σ H R ∨ iEnumT X.K ta σ H R) := PI.or (pi_enum hg hm ha hs) (pi_enumT hg hm ha hs)
/-- whatever is walked by itself: a list, a tuple, a text -/
theorem uSeq {tg l : Expr} {tl : TE} (hl : PE X l tl) : PI X tg l (fun σ H R => iList X.K tl σ H R ∨ iTup X.K tl σ H R ∨ iStr tl σ H R) := PI.or (pi_list hl) (PI.or (pi_tup hl) (pi_str hl))
end

/-! ### a, *b = t -/
section
variable {prog : Program} {w : World} {A : Around} {E : Value → Shared → Prop} {s : Shared}
theorem unpack_star {a : Addr} {x : Value} {xs : List Value} {Q : List Value → Shared → Prop} (ht : IsTup s.heap a (x :: xs).toArray) (hh : A.handled = none) (hz : (x :: xs).length ≤ 1000)
    (h : ∀ D h' tk, s.heap.get? D = none → h'.get? D = some { cls := .type "list", data := .seq xs.toArray } → (∀ b o, s.heap.get? b = some o → h'.get? b = some o) → Q [x, .ref D] { s with heap := h', toks := tk }) :
    wpAny (model prog w) A (unpackItems (.ref a) 2 (some 1)) Q E s := by
  have la : a < s.heap.objs.size := ht.lt
  have na : a ≠ s.heap.objs.size := Nat.ne_of_lt la
  have sz : (x :: xs).toArray.size = xs.length + 1 := by simp
  have hz' : xs.length + 1 ≤ 1000 := by simpa using hz
  have line : 1000 ≤ sizeLine := by decide
  unfold unpackItems notIterableAtAll
  refine wpAny_bind (wpAny_bind (wpAny_specialOf ht.typeIs PyProof.Rows.slot_tuple_iter.lookup (wpAny_pure ?_)))
  simp only [Bool.false_eq_true, if_false]
  refine wpAny_bind (wpAny_holding (iter_tuple ht (wpAny_bind (wpAny_holding (draw_tuple na 1 0 _ _ ⟨_, Heap.get?_push_size _ rfl, rfl, rfl⟩ (ht.push _) (by omega) fun h1 i1 b1 => ?_)))))
  have t1 : IsTup h1 a (x :: xs).toArray := (ht.push _).extBut b1.extBut na
  have k1 : ∀ b o, s.heap.get? b = some o → h1.get? b = some o := fun b o e => b1.extBut b o (Nat.ne_of_lt (Heap.lt_size e)) (Heap.get?_push_of_some _ e)
  have i2 := i1
  obtain ⟨o1, g1, _⟩ := i2
  have l1 : a < h1.objs.size := t1.lt
  refine wpAny_bind (wpAny_holding (PySem.W.kun_collect (s := { s with heap := h1 }) (T := "tuple_iterator") (.inr (.inr (.inr rfl))) (Walks.tuple (A := A.in1) hh s.heap.objs.size a na (x :: xs).toArray) (fun j u st => st.1.typeIs) (k := 1) (by omega) ⟨i1, t1⟩ (Heap.lt_size g1) l1 (fun h2 tk k2 => ?_) (by omega)))
  show wpAny _ _ (if _ then _ else _) _ _ _
  rw [if_neg (by simp)]
  have e0 : ((x :: xs).toArray.toList.drop 1) = xs := rfl
  have e1 : (xs.take (xs.length - (2 - 1 - 1))) = xs := by simp
  have e2 : (xs.drop (xs.length - (2 - 1 - 1))) = [] := by simp
  show wpAny _ _ (newList (((x :: xs).toArray.toList.drop 1).take (((x :: xs).toArray.toList.drop 1).length - (2 - 1 - 1))) >>= fun d => pure ([x] ++ [d] ++ ((x :: xs).toArray.toList.drop 1).drop (((x :: xs).toArray.toList.drop 1).length - (2 - 1 - 1)))) _ _ _
  rw [e0, e1, e2]
  have kk : ∀ b o, s.heap.get? b = some o → h2.get? b = some o := fun b o e => k2 b o (Nat.ne_of_lt (Heap.lt_size e)) (k1 b o e)
  have new : s.heap.get? h2.objs.size = none := by
    cases q : s.heap.get? h2.objs.size with
    | none => rfl
    | some o => exact absurd (Heap.lt_size (kk _ _ q)) (Nat.lt_irrefl _)
  exact wpAny_bind (wpAny_newList (wpAny_pure (h _ _ tk new (Heap.get?_push_size _ rfl) fun b o e => Heap.get?_push_of_some _ (kk b o e))) (by omega))
end

/-- (a, *b) = a tuple with an item at least: the rest in a new list -/
def gStar2 (K : PySem.W.Frag) (ga gb : TG) : TG := fun v σ H Q => ∃ t x xs, v = .ref t ∧ SqT K H t (x :: xs) ∧ (x :: xs).length ≤ 1000 ∧
  ∀ D, H D = none → ga x σ (upd H D (.lst xs)) fun σ1 H1 => gb (.ref D) σ1 H1 Q
section
variable {X : Cx}
theorem pg_star2 {e1 e2 : Expr} {ga gb : TG} {k : Nat} {pos sp : Pos} (hc : X.calm = true) (ha : PG X e1 ga) (hb : PG X e2 gb)
    (he : assignEach [e1, .Starred e2 sp] X.env = [(false, assign e1 X.env), (true, assign e2 X.env)] := by rfl) : PG X (.Tuple [e1, .Starred e2 sp] k pos) (gStar2 X.K ga gb) := by
  refine ⟨fun pins s σ H v u Q I r hw => ?_⟩
  obtain ⟨t, x, xs, rfl, hq, hz, hw⟩ := hw
  cases (show u = Value.ref t from r)
  obtain ⟨its, rv, tp, _⟩ := I.tuple hq
  cases rv with
  | @cons _ x' _ xs' rx rxs =>
    have ln : xs.length = xs'.length := rxs.length
    rw [PyProof.Rows.assign_Tuple]
    refine wpAny_bind (wpAny_standAt ?_)
    unfold unpack
    rw [he]
    refine wpAny_bind (wpAny_holding (unpack_star tp (I.ok.hd hc) (by simpa [ln] using hz) fun D h' tk new hD kp => ?_))
    have hn : H D = none := I.hok.gone new
    have ob : ObjOk X.prog X.w (upd H D (.lst xs)) h' D (.lst xs) := ⟨Nat.le_trans (Nat.le_trans (by simp) hz) (by decide), xs', _, rxs, hD⟩
    have I1 : Inv X pins σ (upd H D (.lst xs)) { s with heap := h', toks := tk } := I.laidN kp new hn ob
    show wpAny _ _ (assignInOrder [assign e1 X.env, assign e2 X.env] [x', .ref D]) _ _ _
    refine assignInOrder_cons (thn (ha.run pins _ σ _ x x' _ I1 rx (hw D hn)) fun _ s1 ⟨σ1, H1, I2, q⟩ => ?_)
    refine assignInOrder_cons (thn (hb.run pins s1 σ1 H1 (.ref D) (.ref D) _ I2 rfl q) fun _ s2 z => ?_)
    exact assignInOrder_nil z
/-- o.f = .. as a target -/
def gFld (K : PySem.W.Frag) (ta : TE) (f : Str) : TG := fun v σ H Q => ta σ H fun x H2 => ∃ a C dx fs, x = .ref a ∧ H2 a = some (.ins C dx fs) ∧ Cls K C ∧ NoAttr K C f ∧ fs.length < 1000 ∧ Q σ (upd H2 a (.ins C dx (putF f v fs)))
theorem pg_fld {o : Expr} {ta : TE} {f : Str} {pos : Pos} (ha : PE X o ta) : PG X (.Attribute o f pos) (gFld X.K ta f) := by
  refine ⟨fun pins s σ H v u Q I r hw => ?_⟩
  rw [PySem.assign_Attribute]
  refine wpAny_bind (wpAny_holding (thn (ha.run pins s σ H _ I hw) fun ov s1 ⟨x, H1, I1, rx, a, C, dx, fs, ex, ea, c, n, l, q⟩ => ?_))
  subst ex
  cases (show ov = Value.ref a from rx)
  refine wpAny_bind (wpAny_standAt (wpAny_bind (wpAny_holding (setattr_ok I1 ea c n l r fun s2 I2 => ?_))))
  exact wpAny_release ⟨σ, _, I2, q⟩
end

/-! ### slices of whatever stands there -/
theorem uSl {X : Cx} : SlR X (fun x lo hi H Q => rSlL X.K x lo hi H Q ∨ rSlA X.K x lo hi H Q ∨ rSlS x lo hi H Q) := sl_list.or (sl_tupA.or sl_str)

/-! ### zip of a tuple and a list -/
def ItZt (K : PySem.W.Frag) (a b : Addr) : It where
  go := fun i H => ∃ (xs ys : List V) (x y : V), SqT K H a xs ∧ SqL K H b ys ∧ xs[i]? = some x ∧ ys[i]? = some y
  yld := fun i H v H' => ∃ T x y, v = .ref T ∧ H T = none ∧ H' = upd H T (.tup [x, y]) ∧ (∀ xs, SqT K H a xs → xs[i]? = some x) ∧ ∀ ys, SqL K H b ys → ys[i]? = some y
  stop := fun i H => ∃ xs ys : List V, SqT K H a xs ∧ SqL K H b ys ∧ i ≤ xs.length ∧ i ≤ ys.length ∧ (i = xs.length ∨ i = ys.length)
theorem turnZt {P : Program} {w : World} {K : PySem.W.Frag} {elts : List Expr} {kk : Nat} {tpos : Pos} {a b z TI TO i1 i2 : Addr} (D : PySem.ZipSep2 z TI TO i1 i2 [i1, a] [i2, b]) :
    Turn P w K (.Tuple elts kk tpos) (ItZt K a b) [z, TI, TO, i1, i2] z (fun i h => PySem.IsZip h z TI TO .none ∧ PySem.IsTupOf2 h TI (.ref i1) (.ref i2) ∧ (∃ x y, PySem.IsTupOf2 h TO x y) ∧ h.IsTupleIter i1 a i ∧ h.IsListIter i2 b i) where
  mem := List.mem_cons_self
  obj := fun i h st c hc => by
    obtain ⟨h1, h2, ⟨x, y, h3⟩, ⟨o4, h4, _, d4⟩, ⟨o5, h5, _, d5⟩⟩ := st
    simp only [List.mem_cons, List.not_mem_nil, or_false] at hc
    rcases hc with q | q | q | q | q <;> subst q
    · exact ⟨_, h1, fun v q => nomatch q⟩
    · exact ⟨_, h2, fun v q => nomatch q⟩
    · exact ⟨_, h3, fun v q => nomatch q⟩
    · exact ⟨o4, h4, fun v q => by rw [d4] at q; cases q⟩
    · exact ⟨o5, h5, fun v q => by rw [d5] at q; cases q⟩
  keep := fun i h h' st kp => by
    obtain ⟨h1, h2, ⟨x, y, h3⟩, h4, h5⟩ := st
    exact ⟨kp z (by simp) _ h1, kp TI (by simp) _ h2, ⟨x, y, kp TO (by simp) _ h3⟩, h4.at fun o q => kp i1 (by simp) o q, h5.at fun o q => kp i2 (by simp) o q⟩
  item := by
    intro X eP ew eK hc i pins s σ H E I hf st hg
    subst eP ew eK
    obtain ⟨h1, h2, ⟨x0, y0, h3⟩, h4, h5⟩ := st
    obtain ⟨xs, ys, x, y, hqx, hqy, hx, hy⟩ := hg
    obtain ⟨its, rv, tp, _⟩ := I.tuple hqx
    obtain ⟨its2, rv2, lp, _⟩ := I.list hqy
    obtain ⟨u, hu, ru⟩ := rv.get hx
    obtain ⟨u2, hu2, ru2⟩ := rv2.get hy
    have lt1 : i < its.toArray.size := by
      have := (List.getElem?_eq_some_iff.mp hu).1
      simpa using this
    have lt2 : i < its2.toArray.size := by
      have := (List.getElem?_eq_some_iff.mp hu2).1
      simpa using this
    have na1 : a ≠ i1 := fun e => by
      obtain ⟨o, q1, q2, _⟩ := h4
      obtain ⟨o', q3, q4, _⟩ := tp
      rw [← e, q3] at q1
      cases q1
      rw [q4] at q2
      exact absurd q2 (by decide)
    have nb2 : b ≠ i2 := fun e => by
      obtain ⟨o, q1, q2, _⟩ := h5
      obtain ⟨o', q3, q4, _⟩ := lp.isList
      rw [← e, q3] at q1
      cases q1
      rw [q4] at q2
      exact absurd q2 (by decide)
    have D1 := PySem.Draws.tuple (prog := X.prog) (w := X.w) (A := X.A.in1) (show X.A.in1.handled = none from I.ok.hd hc) i1 a na1 its.toArray
    have D2 := PySem.Draws.list (prog := X.prog) (w := X.w) (A := X.A.in1) (show X.A.in1.handled = none from I.ok.hd hc) i2 b nb2 its2.toArray
    have lz : z < s.heap.objs.size := Heap.lt_size h1
    refine PySem.wpAny_pyNext_zipD2_item D D1 D2 h1 h2 h3 ⟨h4, tp⟩ ⟨h5, lp.isList⟩ lt1 lt2 fun v1 v2 h' tk p1 p2 z' to' s1' s2' hT hsz kp => ?_
    have e1 : v1 = u := by
      have q : its[i]? = some v1 := by simpa using p1
      exact Option.some.inj (q.symm.trans hu)
    have e2 : v2 = u2 := by
      have q : its2[i]? = some v2 := by simpa using p2
      exact Option.some.inj (q.symm.trans hu2)
    subst e1 e2
    refine ⟨_, rfl, PySem.wpAny_letOwnedTupleGo_zip (s := { s with heap := h', toks := tk }) z' fun h'' z'' sb => ?_⟩
    have hT2 : h''.get? s.heap.objs.size = some { cls := .type "tuple", data := .seq #[v1, v2] } := (sb.2 _ (Nat.ne_of_gt lz)).trans hT
    have new : ObjOk X.prog X.w (upd H s.heap.objs.size (.tup [x, y])) h'' s.heap.objs.size (.tup [x, y]) :=
      ⟨(show 2 ≤ sizeLine by decide), [v1, v2], Paired.cons ru (Paired.cons ru2 .nil), ⟨_, hT2, rfl, _, rfl⟩⟩
    have out : ∀ c, c ∉ [z, TI, TO, i1, i2] → c ≠ z ∧ c ≠ TO ∧ c ≠ i1 ∧ c ≠ i2 := fun c hn => ⟨fun e => hn (by simp [e]), fun e => hn (by simp [e]), fun e => hn (by simp [e]), fun e => hn (by simp [e])⟩
    have I1 := I.turnedNew (t' := tk) (ch := [z, TI, TO, i1, i2]) (h' := h'') (fun c o hn q => (sb.2 c (out c hn).1).trans (kp c o (out c hn).1 (out c hn).2.1 (out c hn).2.2.1 (out c hn).2.2.2 q)) hf (Nat.le_refl _) new
    refine ⟨.ref s.heap.objs.size, _, I1, rfl, ⟨_, x, y, rfl, I.hok.fresh (Nat.le_refl _), rfl, fun l hl => (I.tuple_inj hl hqx) ▸ hx, fun l hl => (I.list_inj hl hqy) ▸ hy⟩, ⟨z'', ?_, ⟨v1, v2, (sb.2 _ D.TOz).trans to'⟩, s1'.1.at fun o q => (sb.2 _ (fun e => D.zi1 e.symm)).trans q, s2'.1.at fun o q => (sb.2 _ (fun e => D.zi2 e.symm)).trans q⟩, fun c hm => ?_⟩
    · exact (sb.2 _ D.TIz).trans (kp _ _ D.TIz D.TITO D.TIi1 D.TIi2 h2)
    · have lt : c < s.heap.objs.size := by
        simp only [List.mem_cons, List.not_mem_nil, or_false] at hm
        rcases hm with q | q | q | q | q <;> subst q
        · exact lz
        · exact Heap.lt_size h2
        · exact Heap.lt_size h3
        · obtain ⟨_, e, _⟩ := h4
          exact Heap.lt_size e
        · obtain ⟨_, e, _⟩ := h5
          exact Heap.lt_size e
      rw [upd_ne (Nat.ne_of_lt lt)]
      exact (hf c hm).1
  done := by
    intro X eP ew eK hc i pins s σ H E I hf st hg
    subst eP ew eK
    obtain ⟨h1, h2, ⟨x0, y0, h3⟩, h4, h5⟩ := st
    obtain ⟨xs, ys, hqx, hqy, le1, le2, he⟩ := hg
    obtain ⟨its, rv, tp, _⟩ := I.tuple hqx
    obtain ⟨its2, rv2, lp, _⟩ := I.list hqy
    have q1 : its.toArray.size = xs.length := by
      rw [List.size_toArray]
      exact rv.length.symm
    have q2 : its2.toArray.size = ys.length := by
      rw [List.size_toArray]
      exact rv2.length.symm
    have na1 : a ≠ i1 := fun e => by
      obtain ⟨o, q1, q2, _⟩ := h4
      obtain ⟨o', q3, q4, _⟩ := tp
      rw [← e, q3] at q1
      cases q1
      rw [q4] at q2
      exact absurd q2 (by decide)
    have nb2 : b ≠ i2 := fun e => by
      obtain ⟨o, q1, q2, _⟩ := h5
      obtain ⟨o', q3, q4, _⟩ := lp.isList
      rw [← e, q3] at q1
      cases q1
      rw [q4] at q2
      exact absurd q2 (by decide)
    have D1 := PySem.Draws.tuple (prog := X.prog) (w := X.w) (A := X.A.in1) (show X.A.in1.handled = none from I.ok.hd hc) i1 a na1 its.toArray
    have D2 := PySem.Draws.list (prog := X.prog) (w := X.w) (A := X.A.in1) (show X.A.in1.handled = none from I.ok.hd hc) i2 b nb2 its2.toArray
    exact PySem.wpAny_pyNext_zipD2_end D D1 D2 h1 h2 h3 ⟨h4, tp⟩ ⟨h5, lp.isList⟩ (by omega) (by omega) (by omega) fun h' tk kp => ⟨rfl, I.turnedL (t' := tk) (ch := [z, TI, TO, i1, i2]) (fun c o hn q =>
      kp c o (fun e => hn (by simp [e])) (fun e => hn (by simp [e])) (fun e => hn (by simp [e])) (fun e => hn (by simp [e])) q) hf⟩
  self := fun A i s Q E st h => PySem.wpAny_pyIter_zip st.1 h
def iZipT (K : PySem.W.Frag) (ta : TA) : TI := fun σ H R => ta σ H fun vs H1 => ∃ a b xs ys, vs = [.ref a, .ref b] ∧ SqT K H1 a xs ∧ SqL K H1 b ys ∧ R (ItZt K a b) H1
section
variable {X : Cx} {e e2 : Expr} {ta : TA} {p pos tpos : Pos} {elts : List Expr} {kk : Nat}
theorem pi_zipT (hg : Gl X "zip") (hm : X.mg "zip" = none) (ha : PA X [e, e2] ta)
    (hs : starEach [e, e2] X.env = (false, eval e X.env) :: starEach [e2] X.env := by rfl) (hpl : (backTo pos (starEach [e2] X.env)).any (·.1) = false := by rfl) :
    PI X (.Tuple elts kk tpos) (.Call (.Name "zip" p) [e, e2] [] pos) (iZipT X.K ta) := by
  refine ⟨fun pins s σ H R I hw => Call_ (ld_blt I hg hm PyProof.Rows.boot_zip (PyProof.Rows.callWith_type1 (thn (ha.run pos pins s σ H _ I hw) fun us s1 hu => ?_) hs hpl))⟩
  obtain ⟨vs, H1, I1, r1, a, b, xs, ys, rfl, hqx, hqy, q⟩ := hu
  obtain ⟨u1, u2, rfl, ru1, ru2⟩ := vals2 r1
  cases (show u1 = Value.ref a from ru1)
  cases (show u2 = Value.ref b from ru2)
  obtain ⟨its, rv, tp, _⟩ := I1.tuple hqx
  obtain ⟨its2, rv2, lp, _⟩ := I1.list hqy
  have la : a < s1.heap.objs.size := tp.lt
  have lb : b < s1.heap.objs.size := lp.lt
  refine PySem.zip_begins2 (PySem.begins_tuple a its.toArray) (PySem.begins_list b its2.toArray) tp lp.isList fun h' hz hTI hTO h1 h2 hsz hk => PySem.wpAny_pyIter_zip hz ?_
  refine ⟨s1.heap.objs.size + 4, [s1.heap.objs.size + 4, s1.heap.objs.size + 2, s1.heap.objs.size + 3, s1.heap.objs.size, s1.heap.objs.size + 1], _, _, H1, rfl, I1.kept (t' := s1.toks) hk,
    turnZt (PySem.zip_sep2 (N := s1.heap.objs.size) (fp1 := [a]) (fp2 := [b]) (fun c hc => (List.mem_singleton.mp hc) ▸ la) (fun c hc => (List.mem_singleton.mp hc) ▸ lb)), ⟨hz, hTI, ⟨_, _, hTO⟩, ⟨_, h1, rfl, rfl⟩, ⟨_, h2, rfl, rfl⟩⟩, fun c hm => ?_, q⟩
  have hle : s1.heap.objs.size ≤ c := by
    simp only [List.mem_cons, List.not_mem_nil, or_false] at hm
    rcases hm with q | q | q | q | q <;> subst q <;> first | exact Nat.le_refl _ | exact Nat.le_add_right _ _
  exact I1.fpOk hle (I1.hok.fresh hle)
/-- zip of two lists, or of a tuple and a list -/
theorem uZip (hg : Gl X "zip") (hm : X.mg "zip" = none) (ha : PA X [e, e2] ta)
    (hs : starEach [e, e2] X.env = (false, eval e X.env) :: starEach [e2] X.env := by rfl) (hpl : (backTo pos (starEach [e2] X.env)).any (·.1) = false := by rfl) :
    PI X (.Tuple elts kk tpos) (.Call (.Name "zip" p) [e, e2] [] pos) (fun σ H R => iZip X.K ta σ H R ∨ iZipT X.K ta σ H R) := PI.or (pi_zip hg hm ha hs hpl) (pi_zipT hg hm ha hs hpl)
end

/-! ### walks over these -/
section
variable {K : PySem.W.Frag} {a b : Addr} {xs ys : List V}
theorem walkEt : Walk (ItEt K a) xs.length (fun H => SqT K H a xs) (YPair (fun i => some (.int (i : Nat))) (fun i => xs[i]?)) := by
  refine ⟨fun i _ hi q => ⟨xs, xs[i], q, by simp [hi]⟩, fun _ q => ⟨xs, q, rfl⟩, fun i H v H' _ q y => ?_⟩
  obtain ⟨T, x, e1, e2, e3, e4⟩ := y
  exact ⟨T, _, x, e1, e2, e3, rfl, e4 xs q⟩
theorem walkZt {n : Nat} (hn : n = min xs.length ys.length) : Walk (ItZt K a b) n (fun H => SqT K H a xs ∧ SqL K H b ys) (YPair (fun i => xs[i]?) (fun i => ys[i]?)) := by
  subst hn
  refine ⟨fun i _ hi q => ?_, fun _ q => ⟨xs, ys, q.1, q.2, by omega, by omega, by omega⟩, fun i H v H' _ q y => ?_⟩
  · have l1 : i < xs.length := by omega
    have l2 : i < ys.length := by omega
    exact ⟨xs, ys, xs[i], ys[i], q.1, q.2, by simp [l1], by simp [l2]⟩
  · obtain ⟨T, x, y, e1, e2, e3, e4, e5⟩ := y
    exact ⟨T, x, y, e1, e2, e3, e4 xs q.1, e5 ys q.2⟩
end
end Ld

set_option Elab.async false
set_option linter.all false
set_option maxRecDepth 100000
set_option maxHeartbeats 4000000
/-! Lib, part S: the set of a tuple of unlike texts, its length. -/
namespace Ld
open PySem PySem.Spec PyProof.Rows

/-- the texts of xs as a set's members -/
def has (xs : List Str) (k : Str) : Bool := xs.any (· == k)
theorem has_snoc {xs : List Str} {x : Str} (k : Str) : has (xs ++ [x]) k = (has xs k || decide (k = x)) := by
  unfold has
  rw [List.any_append]
  congr 1
  by_cases e : k = x
  · subst e
    simp
  · have e2 : (x == k) = false := beq_eq_false_iff_ne.mpr fun z => e z.symm
    simp [e, e2]
theorem not_has {xs : List Str} {x : Str} (h : x ∉ xs) : has xs x = false := by
  unfold has
  rw [List.any_eq_false]
  intro y hy e
  exact h (eq_of_beq e ▸ hy)
section
variable {prog : Program} {w : World} {A : Around} {R : Result → Shared → Prop} {I a S : Addr} {items : Array Value}
/-- the loop of set.update over a tuple's iterator, from the i-th item on -/
theorem set_loop (hh : A.in1.handled = none) (haI : a ≠ I) (hSI : S ≠ I) (hSa : S ≠ a) {xs : List Str} (hi : StrsAre items.toList xs) (nd : xs.Nodup) (few : xs.length ≤ 1000) :
    ∀ (rest pre : List Str) (s : Shared), xs = pre ++ rest → s.heap.IsTupleIter I a pre.length → s.heap.IsTuple a items → s.heap.SetOf (strKind prog w) S (has pre) pre.length →
      (∀ h' tk, h'.SetOf (strKind prog w) S (has xs) xs.length → (∀ b o, b ≠ S → b ≠ I → s.heap.get? b = some o → h'.get? b = some o) → R (.ok (.ret .none)) { s with heap := h', toks := tk }) →
      codeAny (model prog w) A (.builtin "set.update.loop" ⟨[.ref S, .ref I], []⟩) R s := by
  intro rest
  induction rest with
  | nil =>
    intro pre s e hit ht hS hR
    rw [List.append_nil] at e
    subst e
    have len : items.size = xs.length := by rw [← StrsAre.len_eq hi, Array.length_toList]
    refine codeAny_builtin F.entry_set_update_loop ?_
    rw [Around.under_plainId F.plain_set_update_loop _]
    refine wpAny_bind (wpAny_pyNext_tuple_end hh hit ht (by simp [len]) fun h' eb => ?_)
    refine wpAny_pure (hR h' s.toks ?_ fun b o _ hb q => eb b o hb q)
    obtain ⟨o, es, ep, t, q, r⟩ := hS
    exact ⟨o, es, ep, t, eb _ _ hSI q, r⟩
  | cons x rest ih =>
    intro pre s e hit ht hS hR
    have len : items.size = xs.length := by rw [← StrsAre.len_eq hi, Array.length_toList]
    have hx : xs[pre.length]? = some x := by rw [e]; simp
    have hlt : pre.length < items.size := by rw [len, e]; simp
    have fresh : x ∉ pre := fun q => by
      rw [e] at nd
      exact (List.nodup_append.mp nd).2.2 x q x List.mem_cons_self rfl
    obtain ⟨t, ev⟩ : ∃ t, items[pre.length] = .str x t := by
      obtain ⟨t, q⟩ := SS.strs_at hi pre.length items[pre.length] (by simp [hlt])
      exact ⟨t, by rw [q, List.getD_eq_getElem?_getD, hx]; rfl⟩
    refine codeAny_builtin F.entry_set_update_loop ?_
    rw [Around.under_plainId F.plain_set_update_loop _]
    refine wpAny_bind (wpAny_pyNext_tuple_item hit ht (x := .str x t) (by rw [Array.getElem?_eq_getElem hlt, ev]) fun h1 hit1 b1 => ?_)
    have ht1 : h1.IsTuple a items := ht.extBut b1.extBut haI
    have hS1 : h1.SetOf (strKind prog w) S (has pre) pre.length := by
      obtain ⟨o, es, ep, tb, q, r⟩ := hS
      exact ⟨o, es, ep, tb, (b1.2 S hSI).trans q, r⟩
    refine wpAny_bind (wpAny_holding ?_)
    show wpAny _ _ (setAdd S (.str x t)) _ _ _
    unfold setAdd
    refine wpAny_holding (wpAny_bind ((strKind prog w).pyHash (k := x) (strKind_is _ _ _ _) ?_))
    have small : pre.length + 1 < scanBound := by
      have : pre.length < xs.length := by rw [e]; simp
      unfold scanBound
      omega
    refine wpAny_setAddHashed_of (knd := strKind prog w) (s := { s with heap := h1, toks := s.toks + 1 }) (strKind_is _ _ _ _) rfl hS1 small fun h2 b2 hS2 => ?_
    have hS3 : h2.SetOf (strKind prog w) S (has (pre ++ [x])) (pre ++ [x]).length :=
      SetOf_congr hS2 (fun k => by rw [has_snoc]) (by rw [not_has fresh]; simp)
    have hit2 : h2.IsTupleIter I a (pre ++ [x]).length := by
      rw [List.length_append]
      exact hit1.at fun o q => (b2.2 I (fun z => hSI z.symm)).trans q
    have ht2 : h2.IsTuple a items := ht1.at fun o q => (b2.2 a (fun z => hSa z.symm)).trans q
    refine wpAny_pure ⟨plainId_quiet F.plain_set_update_loop _, ih (pre ++ [x]) { s with heap := h2, toks := s.toks + 1 } (by rw [e]; simp) hit2 ht2 hS3 fun h' tk q1 q2 => ?_⟩
    exact hR h' tk q1 fun b o n1 n2 q => q2 b o n1 n2 ((b2.2 b n1).trans ((b1.2 b n2).trans q))
end

section
variable {prog : Program} {w : World} {A : Around} {E : Value → Shared → Prop} {s : Shared}
/-- an empty set, just made -/
abbrev noSet (led : Bool) : Obj := { cls := .type "set", dict := none, data := .set #[] 0 (.fresh 0 0 led) }
/-- what set(t) leaves: a new set with these members -/
def SetDone (s : Shared) (xs : List Str) (prog : Program) (w : World) (s2 : Shared) : Prop := ∃ h' tk, s2 = { s with heap := h', toks := tk } ∧ h'.SetOf (strKind prog w) s.heap.objs.size (has xs) xs.length ∧
  ∀ b o, s.heap.get? b = some o → h'.get? b = some o
theorem set_init {a : Addr} {items : Array Value} {xs : List Str} {led : Bool} (hh : A.handled = none) (ht : s.heap.IsTuple a items) (hi : StrsAre items.toList xs) (nd : xs.Nodup) (few : xs.length ≤ 1000) :
    codeAny (model prog w) A (.call (.builtin "set.__init__") ⟨[.ref s.heap.objs.size, .ref a], []⟩) (wants (fun r s2 => r = .none ∧ SetDone s xs prog w s2) E) { s with heap := s.heap.push (noSet led) } := by
  have hS : (s.heap.push (noSet led)).get? s.heap.objs.size = some (noSet led) := Heap.get?_push_size _ rfl
  have hT : Shared.TypeIs { s with heap := s.heap.push (noSet led) } (.ref s.heap.objs.size) "set" := ⟨_, hS, rfl⟩
  refine codeAny_call_builtin PySem.F.called_set.init.plain PySem.F.entry_set_init (check_set_init_1 hT ?_)
  obtain ⟨⟨tc, tdct, tdt, tsl⟩, g0, c0, n0, d0⟩ := id ht
  simp only at c0 d0
  subst c0 d0
  have la : a < s.heap.objs.size := Heap.lt_size g0
  have g1 : (s.heap.push (noSet led)).get? a = some { cls := .type "tuple", dict := tdct, data := .seq items n0, slots := tsl } := Heap.get?_push_of_some _ g0
  have t1 : (s.heap.push (noSet led)).IsTuple a items := ⟨_, g1, rfl, n0, rfl⟩
  have q1 := PySem.F.sub_tuple_set
  have q2 := PySem.F.sub_tuple_frozenset
  have q3 : (Value.type "tuple" == Value.type "dict") = false := by decide
  unfold Builtin.«set.__init__» noKeywords Builtin.Frozenset.updateFrom
  generalize eIt : pyIter = It
  wp_walk
  subst eIt
  refine wpAny_pyIter_tuple t1 (wpAny_bind (wpAny_runValue ?_))
  have sz : (s.heap.push (noSet led)).objs.size = s.heap.objs.size + 1 := Heap.size_push ..
  have n1 : a ≠ (s.heap.push (noSet led)).objs.size := by
    rw [sz]
    exact Nat.ne_of_lt (Nat.lt_succ_of_lt la)
  have n2 : s.heap.objs.size ≠ (s.heap.push (noSet led)).objs.size := by
    rw [sz]
    exact Nat.ne_of_lt (Nat.lt_succ_self _)
  refine set_loop (by simp [hh]) n1 n2 (Nat.ne_of_gt la) hi nd few xs [] _ rfl ⟨_, Heap.get?_push_size _ rfl, rfl, rfl⟩ (t1.push _) ?_ fun h' tk z1 z2 => ?_
  · have g2 : ((s.heap.push (noSet led)).push { cls := .type "tuple_iterator", data := .fields #[.ref a, .int 0 0] }).get? s.heap.objs.size = some (noSet led) := Heap.get?_push_of_some _ hS
    exact SetOf_congr ((setObjOf_fresh (knd := strKind prog w) led).setOf g2 (by unfold scanBound; omega)) (fun _ => rfl) rfl
  · refine wpAny_pure (wpAny_pure ⟨rfl, h', tk, rfl, z1, fun b o q => z2 b o (Nat.ne_of_lt (Heap.lt_size q)) ?_ (Heap.get?_push_of_some _ (Heap.get?_push_of_some _ q))⟩)
    rw [sz]
    exact Nat.ne_of_lt (Nat.lt_succ_of_lt (Heap.lt_size q))
theorem call_set {a : Addr} {items : Array Value} {xs : List Str} {Q : Value → Shared → Prop} (hh : A.handled = none) (ht : s.heap.IsTuple a items) (hi : StrsAre items.toList xs) (nd : xs.Nodup) (few : xs.length ≤ 1000)
    (h : ∀ s2, SetDone s xs prog w s2 → Q (.ref s.heap.objs.size) s2) : wpAny (model prog w) A (call (.type "set") [.ref a]) Q E s := by
  obtain ⟨c, tl, mro⟩ := PySem.F.called_set.mro
  have made := PySem.F.called_set.made
  have sub := PySem.F.called_set.sub
  refine wpAny_call (codeAny_of_tree ?_)
  refine wpAny_pure ⟨Code.quiet_builtin _ (by decide +kernel), codeAny_builtin PySem.F.entry_type_call ?_⟩
  rw [Around.under_plain (weight_type_call_type "set" [.ref a] []) rfl]
  have k1 := PySem.F.called_set.notType
  have k2 := PySem.F.called_set.canCreate
  have k3 := PySem.F.typeCall_set_1 (.ref a)
  repeat (any_goals (first | assumption | wp_step))
  refine codeAny_mono (code_set_new_1 (.ref a) (E := E) (Q₁ := fun ob s1 => ∃ led : Bool, ob = .ref s.heap.objs.size ∧ s1 = { s with heap := s.heap.push (noSet led) }) fun led => ⟨led, rfl, rfl⟩) fun r s1 hr => ?_
  match r, hr with
  | .error _, hr => exact hr
  | .ok (.ret ob), hr =>
    obtain ⟨led, rfl, rfl⟩ := hr
    have hS : (s.heap.push (noSet led)).get? s.heap.objs.size = some (noSet led) := Heap.get?_push_size _ rfl
    have hT : Shared.TypeIs { s with heap := s.heap.push (noSet led) } (.ref s.heap.objs.size) "set" := ⟨_, hS, rfl⟩
    have k4 := PySem.F.called_set.init.lookup
    have k5 := PySem.F.called_set.init.bind (.ref s.heap.objs.size)
    repeat (any_goals (first | assumption | wp_step))
    refine codeAny_mono (set_init (E := E) (led := led) (by simp [hh]) ht hi nd few) fun r2 s2 hr2 => ?_
    match r2, hr2 with
    | .error _, hr2 => exact hr2
    | .ok (.ret _), ⟨e, z⟩ =>
      subst e
      have z' := z
      obtain ⟨h', tk, rfl, _⟩ := z'
      repeat (any_goals (first | assumption | wp_step))
      exact h _ z
    | .ok .next, hr2 => exact hr2.elim
    | .ok .brk, hr2 => exact hr2.elim
    | .ok .cont, hr2 => exact hr2.elim
  | .ok .next, hr => exact hr.elim
  | .ok .brk, hr => exact hr.elim
  | .ok .cont, hr => exact hr.elim
end
end Ld

set_option Elab.async false
set_option linter.all false
set_option maxRecDepth 100000
set_option maxHeartbeats 2000000
/-! Lib, part C: data told of values; lengths, classes, sets by data; what the top's constants hold. -/
namespace Ld
open PySem PySem.Spec PyProof.Rows L2

/-! ### data stands -/
theorem same_seqT {K : PySem.W.Frag} {H H' : Hp} {a : Addr} {xs : List V} (e : Same H H') (h : SqT K H a xs) : SqT K H' a xs := by
  rcases h with (h | ⟨o, h⟩) | h
  · exact .inl (.inl (e _ _ h))
  · exact .inl (.inr ⟨o, e _ _ h⟩)
  · exact .inr h
mutual
theorem dpSame {K : PySem.W.Frag} {H H' : Hp} (e : Same H H') : ∀ {v : V} {d : PyData}, Dp K H v d → Dp K H' v d
  | _, _, .non => .non
  | _, _, .bl b => .bl b
  | _, _, .int i => .int i
  | _, _, .str x => .str x
  | _, _, .lst h hs => .lst (e.seq h) (dpsSame e hs)
  | _, _, .tup h hs => .tup (same_seqT e h) (dpsSame e hs)
theorem dpsSame {K : PySem.W.Frag} {H H' : Hp} (e : Same H H') : ∀ {vs : List V} {ds : List PyData}, DpAll K H vs ds → DpAll K H' vs ds
  | _, _, .nil => .nil
  | _, _, .cons h hs => .cons (dpSame e h) (dpsSame e hs)
end
theorem dps_len {K : PySem.W.Frag} {H : Hp} : ∀ {vs : List V} {ds : List PyData}, DpAll K H vs ds → vs.length = ds.length
  | _, _, .nil => rfl
  | _, _, .cons _ t => by simp [dps_len t]
theorem dps_get {K : PySem.W.Frag} {H : Hp} : ∀ {vs : List V} {ds : List PyData} {i : Nat} {v : V}, DpAll K H vs ds → vs[i]? = some v → ∃ d, ds[i]? = some d ∧ Dp K H v d
  | _, _, i, v, .nil, h => by simp at h
  | _, _, 0, v, .cons h _, e => by
    simp at e
    subst e
    exact ⟨_, rfl, h⟩
  | _, _, i + 1, v, .cons _ t, e => by
    simp at e
    obtain ⟨d, q, r⟩ := dps_get t e
    exact ⟨d, by simpa using q, r⟩
theorem dps_append {K : PySem.W.Frag} {H : Hp} : ∀ {vs ws : List V} {ds es : List PyData}, DpAll K H vs ds → DpAll K H ws es → DpAll K H (vs ++ ws) (ds ++ es)
  | _, _, _, _, .nil, h => h
  | _, _, _, _, .cons h t, k => .cons h (dps_append t k)
theorem dps_drop {K : PySem.W.Frag} {H : Hp} : ∀ {vs : List V} {ds : List PyData} (n : Nat), DpAll K H vs ds → DpAll K H (vs.drop n) (ds.drop n)
  | _, _, 0, h => h
  | _, _, _ + 1, .nil => .nil
  | _, _, n + 1, .cons _ t => dps_drop n t
theorem dps_take {K : PySem.W.Frag} {H : Hp} : ∀ {vs : List V} {ds : List PyData} (n : Nat), DpAll K H vs ds → DpAll K H (vs.take n) (ds.take n)
  | _, _, 0, _ => .nil
  | _, _, _ + 1, .nil => .nil
  | _, _, n + 1, .cons h t => .cons h (dps_take n t)
/-- a tuple's items are told by its data -/
theorem dp_tup {K : PySem.W.Frag} {H : Hp} {v : V} {ds : List PyData} (h : Dp K H v (.tuple ds)) : ∃ a xs, v = .ref a ∧ SqT K H a xs ∧ DpAll K H xs ds := by
  cases h with
  | tup h hs => exact ⟨_, _, rfl, h, hs⟩
theorem dp_lst {K : PySem.W.Frag} {H : Hp} {v : V} {ds : List PyData} (h : Dp K H v (.list ds)) : ∃ a xs, v = .ref a ∧ SqL K H a xs ∧ DpAll K H xs ds := by
  cases h with
  | lst h hs => exact ⟨_, _, rfl, h, hs⟩
theorem dp_str {K : PySem.W.Frag} {H : Hp} {v : V} {z : Str} (h : Dp K H v (.str z)) : v = .str z := by
  cases h
  rfl
theorem dp_int {K : PySem.W.Frag} {H : Hp} {v : V} {z : Int} (h : Dp K H v (.int z)) : v = .int z := by
  cases h
  rfl
theorem dp_bool {K : PySem.W.Frag} {H : Hp} {v : V} {z : Bool} (h : Dp K H v (.bool z)) : v = .bl z := by
  cases h
  rfl

/-! ### classes by data -/
def tyD : PyData → String
  | .none => "NoneType"
  | .bool _ => "bool"
  | .int _ => "int"
  | .str _ => "str"
  | .list _ => "list"
  | .tuple _ => "tuple"
  | .dict _ => "dict"
/-- isinstance by a data's kind -/
def isD (n : String) (d : PyData) : Bool := tyD d == n || (n == "int" && tyD d == "bool")
theorem tyxL {K : PySem.W.Frag} {H : Hp} {a : Addr} {xs : List V} (h : SqL K H a xs) : TyX K H (.ref a) (.type "list") := by
  rcases h with (h | ⟨o, h⟩) | ⟨o, _, _, h, c, _⟩
  · exact .base (.lst h)
  · exact .base (.frz h)
  · exact .kList h c
theorem tyxT {K : PySem.W.Frag} {H : Hp} {a : Addr} {xs : List V} (h : SqT K H a xs) : TyX K H (.ref a) (.type "tuple") := by
  rcases h with (h | ⟨o, h⟩) | ⟨o, _, _, h, c, _⟩
  · exact .base (.tup h)
  · exact .fTuple h
  · exact .kTuple h c
theorem tyx {K : PySem.W.Frag} {H : Hp} {v : V} {d : PyData} (h : Dp K H v d) : TyX K H v (.type (tyD d)) := by
  cases h with
  | non => exact .base .non
  | bl b => exact .base (.bl b)
  | int i => exact .base (.int i)
  | str x => exact .base (.str x)
  | lst h _ => exact tyxL h
  | tup h _ => exact tyxT h
theorem kitD : ∀ t ∈ ["NoneType", "bool", "int", "str", "list", "tuple"], ∀ n ∈ ["bool", "int", "str", "list", "tuple"], kitB t n = some (t == n || (n == "int" && t == "bool")) := by
  decide +kernel
theorem dp_kind {K : PySem.W.Frag} {H : Hp} {v : V} {d : PyData} (h : Dp K H v d) : tyD d ∈ ["NoneType", "bool", "int", "str", "list", "tuple"] := by
  cases h <;> simp [tyD]
/-- isinstance(x, n), n one of five built-in classes -/
theorem isi_dp {K : PySem.W.Frag} {H : Hp} {v : V} {d : PyData} {n : String} {Q : VK} (h : Dp K H v d) (q : Q (.bl (isD n d)) H) (hn : n ∈ ["bool", "int", "str", "list", "tuple"] := by decide) : rIsi K [v, .ty n] H Q :=
  ⟨v, .ty n, .type (tyD d), .type n, isD n d, rfl, .ty n, tyx h, kit_ty (kitD _ (dp_kind h) _ hn), q⟩

/-! ### len of whatever stands there -/
section
variable {X : Cx}
theorem uLen : CallR X (.builtin "len") (fun xs H Q => (∃ p ys, xs = [.ref p] ∧ (SqL X.K H p ys ∨ SqT X.K H p ys) ∧ Q (.int ys.length) H) ∨ (∃ z, xs = [.str z] ∧ z.length ≤ sizeLine ∧ Q (.int z.length) H)) := call_len_seq.or call_len_str
/-- len(set(t)) of a tuple of unlike texts -/
def tLenSetT (K : PySem.W.Frag) (ta : TE) : TE := fun σ H Q => ta σ H fun x H1 => ∃ (a : Addr) (xs : List Str), x = .ref a ∧ SqT K H1 a (xs.map V.str) ∧ xs.length ≤ 1000 ∧ xs.Nodup ∧ Q (.int (xs.length : Nat)) H1
theorem strs_of_vals : ∀ {ys : List Str} {us : List Value}, Vals (ys.map V.str) us → StrsAre us ys
  | [], _, .nil => .nil
  | y :: ys, _, .cons h t => by
    obtain ⟨k, rfl⟩ := h
    exact .cons _ _ (strs_of_vals t)
theorem pe_lenSetT {a : Expr} {ta : TE} {p p2 q pos : Pos} (hc : X.calm = true) (hg : Gl X "len") (hm : X.mg "len" = none) (hg2 : Gl X "set") (hm2 : X.mg "set" = none) (ha : PE X a ta)
    (na : starEach [a] X.env = (false, eval a X.env) :: starEach [] X.env := by rfl) : PE X (.Call (.Name "len" p) [.Call (.Name "set" p2) [a] [] q] [] pos) (tLenSetT X.K ta) := by
  refine ⟨fun pins s σ H Q I h => Call_ (ld_blt I hg hm boot_len (PyProof.Rows.callWith_builtin1 (PyProof.Rows.args_cons (Call_ (ld_blt I hg2 hm2 PyProof.Rows.boot_set ?_)) rfl) rfl rfl))⟩
  refine PyProof.Rows.callWith_type1 (PyProof.Rows.args_cons (thn (ha.run pins s σ H _ I h) fun v s1 hv => PyProof.Rows.args_nil ?_) na) na rfl
  obtain ⟨x, H1, I1, r1, t, xs, rfl, hq, few, nd, q1⟩ := hv
  cases (show v = Value.ref t from r1)
  obtain ⟨its, r, tp, _⟩ := I1.tuple hq
  refine call_set (I1.ok.hd hc) (show s1.heap.IsTuple t its.toArray from tp) (strs_of_vals (by simpa using r)) nd few fun s2 z => ?_
  obtain ⟨h', tk, rfl, hS, kp⟩ := z
  refine PyProof.Rows.args_nil ?_
  obtain ⟨o, es, ep, tb, ho, hex, hd, _, _, _, hf, hn⟩ := hS
  have I2 : Inv X pins σ H1 { s1 with heap := h', toks := tk } := I1.kept kp
  refine call_len_set ho hex hd hf (by rw [hn]; omega) ⟨.int (xs.length : Nat), H1, I2.tok _, ⟨_, by rw [hn]⟩, q1⟩
end

/-! ### the top's constants -/
/-- the data of a value of the written part: ints, texts, tuples of these -/
def denK (K : PySem.W.Frag) : Nat → Value → Option PyData
  | _, .none => some .none
  | _, .bool b => some (.bool b)
  | _, .int i _ => some (.int i)
  | _, .str x _ => some (.str x)
  | n + 1, .ref a => match K.lookup a with
    | some ⟨.type "tuple", _, .seq its _, _⟩ => if its.size ≤ 1000 then (its.toList.mapM (denK K n)).map .tuple else none
    | _ => none
  | _, _ => none
end Ld

set_option Elab.async false
set_option linter.all false
set_option maxRecDepth 100000
set_option maxHeartbeats 2000000
/-! Lib, part W: the rules whose readings name the written part, with that part as a letter (within a comprehension's block the block's own names may not stand in a reading). -/
namespace Ld
open PySem PySem.Spec PyProof.Rows L2
section
variable {X : Cx} {K : PySem.W.Frag} {a b e e2 l o : Expr} {ta tb te tl : TE} {t tr : TA} {p p2 q pos tpos apos cpos : Pos} {kk : Nat} {elts es : List Expr}
theorem pe_globR {x : Str} {r : Addr} (hg : Gl X x) (h : X.mg x = some (.ref r)) (hd : (x == ("__debug__" : Str)) = false := by decide) : PE X (.Name x pos) (tC (.ref r)) := pe_glob hg h rfl hd
/-- == of scalars by value, of all else by data -/
def rEqU (K : PySem.W.Frag) : R2 := fun x y H Q => if scal x y = true then Q (.bl (decide (x = y))) H else rEqD K x y H Q
def rNeU (K : PySem.W.Frag) : R2 := fun x y H Q => if scal x y = true then Q (.bl (!decide (x = y))) H else rNeD K x y H Q
theorem rEqU_ss {a b : Str} {H : Hp} {Q : VK} : rEqU K (.str a) (.str b) H Q = Q (.bl (decide (a = b))) H := by simp [rEqU, scal]
theorem rEqU_ii {a b : Int} {H : Hp} {Q : VK} : rEqU K (.int a) (.int b) H Q = Q (.bl (decide (a = b))) H := by simp [rEqU, scal]
theorem rEqU_bb {a b : Bool} {H : Hp} {Q : VK} : rEqU K (.bl a) (.bl b) H Q = Q (.bl (decide (a = b))) H := by simp [rEqU, scal]
theorem rEqU_r {a : Addr} {y : V} {H : Hp} {Q : VK} : rEqU K (.ref a) y H Q = rEqD K (.ref a) y H Q := by cases y <;> simp [rEqU, scal]
theorem rNeU_ss {a b : Str} {H : Hp} {Q : VK} : rNeU K (.str a) (.str b) H Q = Q (.bl (!decide (a = b))) H := by simp [rNeU, scal]
theorem rNeU_ii {a b : Int} {H : Hp} {Q : VK} : rNeU K (.int a) (.int b) H Q = Q (.bl (!decide (a = b))) H := by simp [rNeU, scal]
theorem rNeU_bb {a b : Bool} {H : Hp} {Q : VK} : rNeU K (.bl a) (.bl b) H Q = Q (.bl (!decide (a = b))) H := by simp [rNeU, scal]
theorem rNeU_r {a : Addr} {y : V} {H : Hp} {Q : VK} : rNeU K (.ref a) y H Q = rNeD K (.ref a) y H Q := by cases y <;> simp [rNeU, scal]
theorem kEq (hu : X.A.units + 64 < cLine) (hK : X.K = K := by rfl) : OpR X (compareOp .Eq) (rEqU K) := by
  subst hK
  intro pins s σ H x y v u Q I rx ry h
  refine uEq hu pins s σ H x y v u Q I rx ry ?_
  unfold rEqU at h
  by_cases c : scal x y = true
  · rw [if_pos c] at h
    exact .inl ⟨c, h⟩
  · rw [if_neg c] at h
    exact .inr h
theorem kNe (hu : X.A.units + 64 < cLine) (hK : X.K = K := by rfl) : OpR X (compareOp .NotEq) (rNeU K) := by
  subst hK
  intro pins s σ H x y v u Q I rx ry h
  refine uNe hu pins s σ H x y v u Q I rx ry ?_
  unfold rNeU at h
  by_cases c : scal x y = true
  · rw [if_pos c] at h
    exact .inl ⟨c, h⟩
  · rw [if_neg c] at h
    exact .inr h
def rInU (K : PySem.W.Frag) : R2 := fun x y H Q => rIn K false x y H Q ∨ (∃ (c : Nat) (z : Str), x = .str ⟨#[c]⟩ ∧ y = .str z ∧ Q (.bl (decide (c ∈ z.cps.toList))) H)
theorem kIn (hK : X.K = K := by rfl) : OpR X (compareOp .In) (rInU K) := hK ▸ uIn
theorem kNotIn (hK : X.K = K := by rfl) : OpR X (compareOp .NotIn) (rIn K true) := hK ▸ uNotIn
def rAddU (K : PySem.W.Frag) : R2 := fun x y H Q => rI0 (fun i j => .int (i + j)) x y H Q ∨ rCat x y H Q ∨ rCatA K x y H Q
theorem rAddU_ii {i j : Int} {H : Hp} {Q : VK} : rAddU K (.int i) (.int j) H Q = Q (.int (i + j)) H := by simp [rAddU, rI0, rCat, rCatA]
theorem kAdd (hK : X.K = K := by rfl) : OpR X (binaryOp .Add) (rAddU K) := hK ▸ uAdd
/-- an item of a list or a tuple; a sign of a text -/
def rIxU (K : PySem.W.Frag) : R2 := fun x y H Q => (∃ p xs i v, x = .ref p ∧ y = .int i ∧ (SqL K H p xs ∨ SqT K H p xs) ∧ atI xs i = some v ∧ Q v H) ∨ rIxS x y H Q
theorem kIx (hK : X.K = K := by rfl) : IxR X (rIxU K) := by
  subst hK
  intro value slice pins s σ H x y v u Q I rx ry h
  refine ix_seq value slice pins s σ H x y v u Q I rx ry ?_
  rcases h with ⟨p, xs, i, z, e1, e2, h | h, r⟩ | h
  · exact .inl ⟨p, xs, i, z, e1, e2, h, r⟩
  · exact .inr (.inl ⟨p, xs, i, z, e1, e2, h, r⟩)
  · exact .inr (.inr h)
def rSlU (K : PySem.W.Frag) := fun (x : V) (lo hi : Option Int) (H : Hp) (Q : VK) => rSlL K x lo hi H Q ∨ rSlA K x lo hi H Q ∨ rSlS x lo hi H Q
theorem kSl (hK : X.K = K := by rfl) : SlR X (rSlU K) := hK ▸ uSl
def rLenU (K : PySem.W.Frag) : List V → Hp → VK → Prop := fun xs H Q => (∃ p ys, xs = [.ref p] ∧ (SqL K H p ys ∨ SqT K H p ys) ∧ Q (.int ys.length) H) ∨ (∃ z, xs = [.str z] ∧ z.length ≤ sizeLine ∧ Q (.int z.length) H)
theorem kLen (hK : X.K = K := by rfl) : CallR X (.builtin "len") (rLenU K) := hK ▸ uLen
theorem kIsi (hK : X.K = K := by rfl) : CallR X (.builtin "isinstance") (rIsi K) := hK ▸ call_isi
theorem kIsiT (hK : X.K = K := by rfl) : CallR X (.builtin "isinstance") (rIsiT K) := hK ▸ call_isiT
theorem kAll (hc : X.calm = true) (hK : X.K = K := by rfl) : CallR X (.builtin "all") (rAll K) := hK ▸ cr_all hc
theorem kAny (hc : X.calm = true) (hK : X.K = K := by rfl) : CallR X (.builtin "any") (rAny K) := hK ▸ cr_any hc
def rTupU (K : PySem.W.Frag) : List V → Hp → VK → Prop := fun xs H Q => ∃ p ys, xs = [.ref p] ∧ ((SqL K H p ys ∧ ∀ l, H l = none → Q (.ref l) (upd H l (.tup ys))) ∨ (SqT K H p ys ∧ Q (.ref p) H))
theorem kTuple (hK : X.K = K := by rfl) : CallR X (.type "tuple") (rTupU K) := hK ▸ call_tuple_of
def rListU (K : PySem.W.Frag) : List V → Hp → VK → Prop := fun xs H Q => ∃ p ys, xs = [.ref p] ∧ (SqL K H p ys ∨ SqT K H p ys) ∧ ∀ l, H l = none → Q (.ref l) (upd H l (.lst ys))
theorem kList (hK : X.K = K := by rfl) : CallR X (.type "list") (rListU K) := hK ▸ call_list_of
theorem kFld {f : Str} (he : PE X e te) (hb : attributeBase e f X.env (eval e X.env) = eval e X.env) (hK : X.K = K := by rfl) : PE X (.Attribute e f pos) (tFld K te f) := hK ▸ pe_fld he hb
theorem kBm {name : Str} {T id : String} {r : V → List V → Hp → VK → Prop} (pa : PlainAttrs T) (slot : Slot T name id) (hty : typeOf (.builtin id) = pure (.type "method_descriptor")) (hm : MtR X id r) (ho : PE X o te) (ha : PA X (e :: es) t) (hK : X.K = K := by rfl)
    (hbase : attributeBase o name X.env (eval o X.env) = eval o X.env := by rfl) (he : starEach (e :: es) X.env = (false, eval e X.env) :: starEach es X.env := by rfl) (hpl : (backTo cpos (starEach es X.env)).any (·.1) = false := by rfl)
    (hfew : ((backTo cpos (starEach (e :: es) X.env)).all (!·.1) && (backToKw cpos (keywordEach [] X.env)).all (·.1.isSome) && decide ((e :: es).length + ([] : List Keyword).length + (if ([] : List Keyword).isEmpty then 0 else 1) < 30)) = true := by rfl)
    (hline : (apos.endLine == cpos.line) = true := by rfl) : PE X (.Call (.Attribute o name apos) (e :: es) [] cpos) (tBM K T r te t) := hK ▸ pe_bm pa slot hty hm ho ha hbase hfew hline he hpl
theorem kBm0 {name : Str} {T id : String} {r : V → List V → Hp → VK → Prop} (pa : PlainAttrs T) (slot : Slot T name id) (hty : typeOf (.builtin id) = pure (.type "method_descriptor")) (hm : MtR X id r) (ho : PE X o te) (hK : X.K = K := by rfl)
    (hbase : attributeBase o name X.env (eval o X.env) = eval o X.env := by rfl) (hline : (apos.endLine == cpos.line) = true := by rfl) : PE X (.Call (.Attribute o name apos) [] [] cpos) (tBM0 K T r te) := hK ▸ pe_bm0 pa slot hty hm ho hbase hline
/-- sep.join(xs) -/
def rJoin (K : PySem.W.Frag) : V → List V → Hp → VK → Prop := fun x xs H Q => ∃ a p, ∃ ys : List Str, x = .str a ∧ xs = [.ref p] ∧ (SqL K H p (ys.map V.str) ∨ SqT K H p (ys.map V.str)) ∧ (ys.map (·.length)).sum + ys.length * a.length ≤ 16777216 ∧ Q (.str (Txt.join a ys)) H
theorem kJoin (ho : PE X o ta) (he : PE X e te) (hK : X.K = K := by rfl) (hs : starEach [e] X.env = [(false, eval e X.env)] := by rfl) (hbase : attributeBase o "join" X.env (eval o X.env) = eval o X.env := by rfl) (hline : (apos.endLine == pos.line) = true := by rfl) :
    PE X (.Call (.Attribute o "join" apos) [e] [] pos) (tM1 (rJoin K) ta te) := hK ▸ pe_join ho he hs hbase hline
theorem kLenSet (hc : X.calm = true) (hg : Gl X "len") (hm : X.mg "len" = none) (hg2 : Gl X "set") (hm2 : X.mg "set" = none) (ha : PE X a ta) (hK : X.K = K := by rfl)
    (na : starEach [a] X.env = (false, eval a X.env) :: starEach [] X.env := by rfl) : PE X (.Call (.Name "len" p) [.Call (.Name "set" p2) [a] [] q] [] pos) (tLenSetT K ta) := hK ▸ pe_lenSetT hc hg hm hg2 hm2 ha na
theorem kSeq {tg : Expr} (hl : PE X l tl) (hK : X.K = K := by rfl) : PI X tg l (fun σ H R => iList K tl σ H R ∨ iTup K tl σ H R ∨ iStr tl σ H R) := hK ▸ uSeq hl
theorem kEnum (hg : Gl X "enumerate") (hm : X.mg "enumerate" = none) (ha : PA X [e] tr) (hK : X.K = K := by rfl) (hs : starEach [e] X.env = [(false, eval e X.env)] := by rfl) :
    PI X (.Tuple elts kk tpos) (.Call (.Name "enumerate" p) [e] [] pos) (fun σ H R => iEnum K tr σ H R ∨ iEnumT K tr σ H R) := hK ▸ uEnum hg hm ha hs
theorem kZip (hg : Gl X "zip") (hm : X.mg "zip" = none) (ha : PA X [e, e2] tr) (hK : X.K = K := by rfl)
    (hs : starEach [e, e2] X.env = (false, eval e X.env) :: starEach [e2] X.env := by rfl) (hpl : (backTo pos (starEach [e2] X.env)).any (·.1) = false := by rfl) :
    PI X (.Tuple elts kk tpos) (.Call (.Name "zip" p) [e, e2] [] pos) (fun σ H R => iZip K tr σ H R ∨ iZipT K tr σ H R) := hK ▸ uZip hg hm ha hs hpl
theorem kTup {gs : TGs} {n : Nat} (hc : X.calm = true) (h : PGs X es gs) (hK : X.K = K := by rfl)
    (hn : (assignEach es X.env).length = n := by rfl) (hst : (assignEach es X.env).findIdx? (·.1) = none := by rfl) : PG X (.Tuple es kk pos) (gTup K n gs) := hK ▸ pg_tup hc h hn hst
theorem kStar {e1 : Expr} {ga gb : TG} {sp : Pos} (hc : X.calm = true) (ha : PG X e1 ga) (hb : PG X e2 gb) (hK : X.K = K := by rfl)
    (he : assignEach [e1, .Starred e2 sp] X.env = [(false, assign e1 X.env), (true, assign e2 X.env)] := by rfl) : PG X (.Tuple [e1, .Starred e2 sp] kk pos) (gStar2 K ga gb) := hK ▸ pg_star2 hc ha hb he
theorem kGfld {f : Str} (ha : PE X o ta) (hK : X.K = K := by rfl) : PG X (.Attribute o f pos) (gFld K ta f) := hK ▸ pg_fld ha
end
end Ld

set_option Elab.async false
set_option linter.all false
set_option maxRecDepth 100000
set_option maxHeartbeats 2000000
/-! Lib, part K: names, words, forms, rules as questions about data. -/
namespace Ld
open PySem PySem.Spec PyProof.Rows L2

def isWholeD : PyData → Bool
  | .int _ => true
  | _ => false
def lettersS : Str := "abcdefghijklmnopqrstuvwxyz"
def isNameS (z : Str) : Bool := decide (1 ≤ z.length) && decide (z.length ≤ 8) && z.cps.toList.all fun c => decide (c ∈ lettersS.cps.toList)
def isNameD : PyData → Bool
  | .str z => isNameS z
  | _ => false
def isWordD (ws : List Str) : PyData → Bool
  | .str z => ws.any fun y => y == z
  | _ => false
/-- desks -/
def strsOf : List PyData → List Str
  | [] => []
  | .str z :: r => z :: strsOf r
  | _ :: r => strsOf r
def areDesksD : PyData → Bool
  | .tuple ds => decide (1 ≤ ds.length) && decide (ds.length ≤ 4) && ds.all isNameD && decide (strsOf ds).Nodup
  | _ => false
/-- a name's length fits where one looks at it -/
def fitsD : PyData → Prop
  | .str z => z.length ≤ sizeLine
  | _ => True
/-- a question about one value -/
def spIs (K : PySem.W.Frag) (ok : PyData → Prop) (g : PyData → Bool) : Sp := fun vs H Q _ => ∃ v d, vs = [v] ∧ Dp K H v d ∧ ok d ∧ ∀ H', Same H H' → Q (.bl (g d)) H'
theorem spIs_len {K : PySem.W.Frag} {ok : PyData → Prop} {g : PyData → Bool} : ∀ vs H Q E, spIs K ok g vs H Q E → vs.length = 1 := by
  rintro _ _ _ _ ⟨_, _, rfl, _⟩
  rfl
/-- a question about a value and a tuple of texts -/
def spWord (K : PySem.W.Frag) : Sp := fun vs H Q _ => ∃ v d a ws, vs = [v, .ref a] ∧ Dp K H v d ∧ SqT K H a (List.map V.str ws) ∧ Q (.bl (isWordD ws d)) H
theorem inV_strs (z : Str) : ∀ ws : List Str, inV (.str z) (ws.map V.str) = ws.any fun y => y == z
  | [] => rfl
  | y :: ws => by
    have ih := inV_strs z ws
    unfold inV at ih ⊢
    rw [List.map_cons, List.any_cons, List.any_cons, ih]
    rfl
theorem flat_all (ws : List Str) : (ws.map V.str).all flatV = true := by
  rw [List.all_map]
  exact List.all_eq_true.mpr fun _ _ => rfl

theorem isD_str (d : PyData) : (∃ z, d = .str z) ∨ isD "str" d = false := by
  cases d <;> first | exact .inl ⟨_, rfl⟩ | exact .inr (by simp [isD, tyD])
theorem isD_tuple (d : PyData) : (∃ z, d = .tuple z) ∨ isD "tuple" d = false := by
  cases d <;> first | exact .inl ⟨_, rfl⟩ | exact .inr (by simp [isD, tyD])
theorem isD_list (d : PyData) : (∃ z, d = .list z) ∨ isD "list" d = false := by
  cases d <;> first | exact .inl ⟨_, rfl⟩ | exact .inr (by simp [isD, tyD])
theorem isD_bool (d : PyData) : (∃ z, d = .bool z) ∨ isD "bool" d = false := by
  cases d <;> first | exact .inl ⟨_, rfl⟩ | exact .inr (by simp [isD, tyD])
theorem isD_int (d : PyData) : (∃ z, d = .int z) ∨ (∃ z, d = .bool z) ∨ isD "int" d = false := by
  cases d <;> first | exact .inl ⟨_, rfl⟩ | exact .inr (.inl ⟨_, rfl⟩) | exact .inr (.inr (by simp [isD, tyD]))
theorem isD_str_t (z : Str) : isD "str" (.str z) = true := by
  simp [isD, tyD]
theorem isD_tuple_t (z : List PyData) : isD "tuple" (.tuple z) = true := by
  simp [isD, tyD]
theorem isD_list_t (z : List PyData) : isD "list" (.list z) = true := by
  simp [isD, tyD]
theorem isD_bool_t (z : Bool) : isD "bool" (.bool z) = true := by
  simp [isD, tyD]
theorem isD_int_t (z : Int) : isD "int" (.int z) = true := by
  simp [isD, tyD]
theorem isD_int_b (z : Bool) : isD "int" (.bool z) = true := by
  simp [isD, tyD]
theorem isD_bool_i (z : Int) : isD "bool" (.int z) = false := by
  simp [isD, tyD]

/-! ### loops over what stands there, by an invariant -/
section
variable {K : PySem.W.Frag} {tl : TE} {g : TG} {tb : TS} {D : Ends} {σ : L2.St} {H : Hp} {a : Addr} {xs : List V}
theorem forL (ht : ∀ Q : VK, Q (.ref a) H → tl σ H Q) (hs : SqL K H a xs) (Pv : Nat → L2.St → Hp → Prop) (h0 : Pv 0 σ H) (hG : ∀ i σ H, i ≤ xs.length → Pv i σ H → SqL K H a xs)
    (step : ∀ i x σ H, xs[i]? = some x → Pv i σ H → g x σ H fun σ2 H2 => tb { D with nx := Pv (i + 1), ct := Pv (i + 1), bk := D.nx } σ2 H2) (hd : ∀ σ H, Pv xs.length σ H → D.nx σ H) :
    tFor (fun σ H R => iList K tl σ H R ∨ iTup K tl σ H R ∨ iStr tl σ H R) g tb D σ H :=
  .inl (ht _ ⟨a, rfl, ⟨xs, hs⟩, for_it walk_list Pv h0 hG (fun i x σ H H' _ p y => by
    obtain ⟨rfl, e⟩ := y
    exact step i x σ _ e p) hd⟩)
theorem forT (ht : ∀ Q : VK, Q (.ref a) H → tl σ H Q) (hs : SqT K H a xs) (Pv : Nat → L2.St → Hp → Prop) (h0 : Pv 0 σ H) (hG : ∀ i σ H, i ≤ xs.length → Pv i σ H → SqT K H a xs)
    (step : ∀ i x σ H, xs[i]? = some x → Pv i σ H → g x σ H fun σ2 H2 => tb { D with nx := Pv (i + 1), ct := Pv (i + 1), bk := D.nx } σ2 H2) (hd : ∀ σ H, Pv xs.length σ H → D.nx σ H) :
    tFor (fun σ H R => iList K tl σ H R ∨ iTup K tl σ H R ∨ iStr tl σ H R) g tb D σ H :=
  .inr (.inl (ht _ ⟨a, rfl, ⟨xs, hs⟩, for_it walk_tup Pv h0 hG (fun i x σ H H' _ p y => by
    obtain ⟨rfl, e⟩ := y
    exact step i x σ _ e p) hd⟩))
/-- enumerate of a tuple: the pair is laid at a new place each turn -/
theorem forEt {ta : TA} (ht : ∀ Q : List V → Hp → Prop, Q [.ref a] H → ta σ H Q) (hs : SqT K H a xs) (Pv : Nat → L2.St → Hp → Prop) (h0 : Pv 0 σ H) (hG : ∀ i σ H, i ≤ xs.length → Pv i σ H → SqT K H a xs)
    (step : ∀ i x σ H T, xs[i]? = some x → Pv i σ H → H T = none → g (.ref T) σ (upd H T (.tup [.int (i : Nat), x])) fun σ2 H2 => tb { D with nx := Pv (i + 1), ct := Pv (i + 1), bk := D.nx } σ2 H2) (hd : ∀ σ H, Pv xs.length σ H → D.nx σ H) :
    tFor (fun σ H R => iEnum K ta σ H R ∨ iEnumT K ta σ H R) g tb D σ H :=
  .inr (ht _ ⟨a, xs, rfl, hs, for_it walkEt Pv h0 hG (fun i x σ H H' _ p y => by
    obtain ⟨T, u, v, rfl, n, rfl, e1, e2⟩ := y
    cases e1
    exact step i v σ H T e2 p n) hd⟩)
theorem forEl {ta : TA} (ht : ∀ Q : List V → Hp → Prop, Q [.ref a] H → ta σ H Q) (hs : SqL K H a xs) (Pv : Nat → L2.St → Hp → Prop) (h0 : Pv 0 σ H) (hG : ∀ i σ H, i ≤ xs.length → Pv i σ H → SqL K H a xs)
    (step : ∀ i x σ H T, xs[i]? = some x → Pv i σ H → H T = none → g (.ref T) σ (upd H T (.tup [.int (i : Nat), x])) fun σ2 H2 => tb { D with nx := Pv (i + 1), ct := Pv (i + 1), bk := D.nx } σ2 H2) (hd : ∀ σ H, Pv xs.length σ H → D.nx σ H) :
    tFor (fun σ H R => iEnum K ta σ H R ∨ iEnumT K ta σ H R) g tb D σ H :=
  .inl (ht _ ⟨a, xs, rfl, hs, for_it walk_enum Pv h0 hG (fun i x σ H H' _ p y => by
    obtain ⟨T, u, v, rfl, n, rfl, e1, e2⟩ := y
    cases e1
    exact step i v σ H T e2 p n) hd⟩)
end

/-! ### comprehensions, by an invariant -/
section
variable {K : PySem.W.Frag} {tl : TE} {ta : TA} {g : TG} {tt : TT} {te : TE} {vs : List Nat} {σ : L2.St} {H : Hp} {Q : VK} {a : Addr} {xs : List V}
/-- one turn of a comprehension whose list is made at D -/
def lcTurn (g : TG) (tt : TT) (te : TE) (vs : List Nat) (σ : L2.St) (D : Addr) (N : Hp → Prop) (x : V) (H : Hp) : Prop :=
  g x (wipe σ vs) H fun σ2 H2 => wipe σ2 vs = wipe σ vs ∧ tt σ2 H2 fun b H3 => if b = true then te σ2 H3 fun y H4 => ∃ acc, H4 D = some (.lst acc) ∧ acc.length < sizeLine ∧ N (upd H4 D (.lst (acc ++ [y]))) else N H3
/-- a comprehension, its iterator come -/
def LcIn (J : It) (g : TG) (tt : TT) (te : TE) (vs : List Nat) (σ : L2.St) (Q : VK) (H1 : Hp) : Prop := ∀ D, H1 D = none → ∃ W : Nat → Nat → Hp → Prop, (∃ m, W 0 m (upd H1 D (.lst []))) ∧ ∀ i m H, W i m H →
  (J.stop i H ∧ Q (.ref D) H) ∨ (J.go i H ∧ ∃ Nx : Hp → Prop, (∀ H', Nx H' → ∃ m', m' < m ∧ W (i + 1) m' H') ∧ ∀ x H', J.yld i H x H' → g x (wipe σ vs) H' fun σ2 H2 => wipe σ2 vs = wipe σ vs ∧ tt σ2 H2 fun b H3 =>
    if b = true then te σ2 H3 fun y H4 => ∃ acc, H4 D = some (.lst acc) ∧ acc.length < sizeLine ∧ Nx (upd H4 D (.lst (acc ++ [y]))) else Nx H3)
theorem tLc_of {wi : TI} (h : wi σ H fun J H1 => LcIn J g tt te vs σ Q H1) : tLc wi g tt te vs σ H Q := h
theorem lcAnyIn {J : It} {n : Nat} {G : Hp → Prop} {Y : Nat → Hp → V → Hp → Prop} (w : Walk J n G Y) (Pv : Addr → Nat → Hp → Prop) (h0 : ∀ D, H D = none → Pv D 0 (upd H D (.lst []))) (hG : ∀ D i H, i ≤ n → Pv D i H → G H)
    (step : ∀ D, H D = none → ∀ i x H1 H', i < n → Pv D i H1 → Y i H1 x H' → lcTurn g tt te vs σ D (Pv D (i + 1)) x H') (hd : ∀ D, H D = none → ∀ H', Pv D n H' → Q (.ref D) H') : LcIn J g tt te vs σ Q H :=
  fun D nD => lc_it w (Pv D) (h0 D nD) (hG D) (step D nD) (hd D nD)
theorem lcAny {J : It} {n : Nat} {G : Hp → Prop} {Y : Nat → Hp → V → Hp → Prop} (w : Walk J n G Y) {wi : TI} (hw : ∀ R : It → Hp → Prop, R J H → wi σ H R) (Pv : Addr → Nat → Hp → Prop) (h0 : ∀ D, H D = none → Pv D 0 (upd H D (.lst []))) (hG : ∀ D i H, i ≤ n → Pv D i H → G H)
    (step : ∀ D, H D = none → ∀ i x H1 H', i < n → Pv D i H1 → Y i H1 x H' → lcTurn g tt te vs σ D (Pv D (i + 1)) x H') (hd : ∀ D, H D = none → ∀ H', Pv D n H' → Q (.ref D) H') : tLc wi g tt te vs σ H Q :=
  hw _ fun D nD => lc_it w (Pv D) (h0 D nD) (hG D) (step D nD) (hd D nD)
theorem lcL (ht : ∀ Q : VK, Q (.ref a) H → tl σ H Q) (hs : SqL K H a xs) (Pv : Addr → Nat → Hp → Prop) (h0 : ∀ D, H D = none → Pv D 0 (upd H D (.lst []))) (hG : ∀ D i H, i ≤ xs.length → Pv D i H → SqL K H a xs)
    (step : ∀ D, H D = none → ∀ i x H', xs[i]? = some x → Pv D i H' → lcTurn g tt te vs σ D (Pv D (i + 1)) x H') (hd : ∀ D, H D = none → ∀ H', Pv D xs.length H' → Q (.ref D) H') :
    tLc (fun σ H R => iList K tl σ H R ∨ iTup K tl σ H R ∨ iStr tl σ H R) g tt te vs σ H Q :=
  lcAny walk_list (fun R r => .inl (ht _ ⟨a, rfl, ⟨xs, hs⟩, r⟩)) Pv h0 hG (fun D nD i x H1 H' _ p y => by
    obtain ⟨rfl, e⟩ := y
    exact step D nD i x _ e p) hd
theorem lcT (ht : ∀ Q : VK, Q (.ref a) H → tl σ H Q) (hs : SqT K H a xs) (Pv : Addr → Nat → Hp → Prop) (h0 : ∀ D, H D = none → Pv D 0 (upd H D (.lst []))) (hG : ∀ D i H, i ≤ xs.length → Pv D i H → SqT K H a xs)
    (step : ∀ D, H D = none → ∀ i x H', xs[i]? = some x → Pv D i H' → lcTurn g tt te vs σ D (Pv D (i + 1)) x H') (hd : ∀ D, H D = none → ∀ H', Pv D xs.length H' → Q (.ref D) H') :
    tLc (fun σ H R => iList K tl σ H R ∨ iTup K tl σ H R ∨ iStr tl σ H R) g tt te vs σ H Q :=
  lcAny walk_tup (fun R r => .inr (.inl (ht _ ⟨a, rfl, ⟨xs, hs⟩, r⟩))) Pv h0 hG (fun D nD i x H1 H' _ p y => by
    obtain ⟨rfl, e⟩ := y
    exact step D nD i x _ e p) hd
theorem lcS {z : Str} (ht : ∀ Q : VK, Q (.str z) H → tl σ H Q) (Pv : Addr → Nat → Hp → Prop) (h0 : ∀ D, H D = none → Pv D 0 (upd H D (.lst [])))
    (step : ∀ D, H D = none → ∀ i c H', z.cps[i]? = some c → Pv D i H' → lcTurn g tt te vs σ D (Pv D (i + 1)) (.str ⟨#[c]⟩) H') (hd : ∀ D, H D = none → ∀ H', Pv D z.cps.size H' → Q (.ref D) H') :
    tLc (fun σ H R => iList K tl σ H R ∨ iTup K tl σ H R ∨ iStr tl σ H R) g tt te vs σ H Q :=
  lcAny walk_str (fun R r => .inr (.inr (ht _ ⟨z, rfl, r⟩))) Pv h0 (fun _ _ _ _ _ => trivial) (fun D nD i x H1 H' _ p y => by
    obtain ⟨rfl, c, e, rfl⟩ := y
    exact step D nD i c _ e p) hd
theorem lcR {n : Nat} (ht : ∀ Q : List V → Hp → Prop, Q [.int (n : Int)] H → ta σ H Q) (hz : (n : Int) < 2 ^ 62) (Pv : Addr → Nat → Hp → Prop) (h0 : ∀ D, H D = none → Pv D 0 (upd H D (.lst [])))
    (step : ∀ D, H D = none → ∀ i H', i < n → Pv D i H' → lcTurn g tt te vs σ D (Pv D (i + 1)) (.int (i : Nat)) H') (hd : ∀ D, H D = none → ∀ H', Pv D n H' → Q (.ref D) H') :
    tLc (iRng1 ta) g tt te vs σ H Q :=
  lcAny (walk_range (lo := 0) (n := n)) (fun R r => ht _ ⟨(n : Int), rfl, by omega, hz, by rw [Int.toNat_natCast]; exact r⟩) Pv h0 (fun _ _ _ _ _ => trivial) (fun D nD i x H1 H' hi p y => by
    obtain ⟨rfl, rfl⟩ := y
    show lcTurn g tt te vs σ D (Pv D (i + 1)) (.int (0 + (i : Int))) _
    rw [Int.zero_add]
    exact step D nD i _ hi p) hd
/-- a tuple and a list side by side -/
theorem lcZt {b : Addr} {ys : List V} {n : Nat} (hn : n = min xs.length ys.length) (ht : ∀ Q : List V → Hp → Prop, Q [.ref a, .ref b] H → ta σ H Q) (hs : SqT K H a xs ∧ SqL K H b ys) (Pv : Addr → Nat → Hp → Prop) (h0 : ∀ D, H D = none → Pv D 0 (upd H D (.lst [])))
    (hG : ∀ D i H, i ≤ n → Pv D i H → SqT K H a xs ∧ SqL K H b ys)
    (step : ∀ D, H D = none → ∀ i x y H' T, xs[i]? = some x → ys[i]? = some y → Pv D i H' → H' T = none → lcTurn g tt te vs σ D (Pv D (i + 1)) (.ref T) (upd H' T (.tup [x, y]))) (hd : ∀ D, H D = none → ∀ H', Pv D n H' → Q (.ref D) H') :
    tLc (fun σ H R => iZip K ta σ H R ∨ iZipT K ta σ H R) g tt te vs σ H Q :=
  lcAny (walkZt hn) (fun R r => .inr (ht _ ⟨a, b, xs, ys, rfl, hs.1, hs.2, r⟩)) Pv h0 hG (fun D nD i x H1 H' _ p y => by
    obtain ⟨T, u, v, rfl, n, rfl, e1, e2⟩ := y
    exact step D nD i u v H1 T e1 e2 p n) hd
end

/-! ### what stands but for some places -/
/-- all that was tracked but at p is as it was -/
def Keep (p : Addr → Prop) (H H' : Hp) : Prop := ∀ b o, ¬ p b → H b = some o → H' b = some o
theorem Keep.refl {p : Addr → Prop} (H : Hp) : Keep p H H := fun _ _ _ e => e
theorem Keep.trans {p : Addr → Prop} {H H1 H2 : Hp} (a : Keep p H H1) (b : Keep p H1 H2) : Keep p H H2 := fun c o n e => b c o n (a c o n e)
theorem Keep.of {p : Addr → Prop} {H H' : Hp} (s : Same H H') : Keep p H H' := fun b o _ e => s b o e
theorem Keep.same {H H' : Hp} (k : Keep (fun _ => False) H H') : Same H H' := fun b o e => k b o id e
theorem Keep.new {p : Addr → Prop} {H H' : Hp} {D : Addr} {o : HO} (k : Keep p H H') (n : H D = none) : Keep p H (upd H' D o) := fun b u nb e => by
  rw [upd_ne (ne_of_none e n)]
  exact k b u nb e
theorem Same.new {H H' : Hp} {D : Addr} {o : HO} (k : Same H H') (n : H D = none) : Same H (upd H' D o) := fun b u e => by
  rw [upd_ne (ne_of_none e n)]
  exact k b u e
section
variable {K : PySem.W.Frag} {tl : TE} {ta : TA} {g : TG} {te : TE} {vs : List Nat} {σ : L2.St} {H : Hp} {Q : VK} {a : Addr} {xs : List V} {p : Addr → Prop} {Iv : Hp → Prop} {Rl : Addr → Nat → V → Hp → Prop}
/-- what a comprehension without tests asks, told turn by turn: the list is made at D; Iv stands throughout; each item made is so as Rl says, whatever else is done at p and at D -/
structure LcAsk (p : Addr → Prop) (H : Hp) (Iv : Hp → Prop) (Rl : Addr → Nat → V → Hp → Prop) : Prop where
  at_ : ∀ b, p b → H b ≠ none
  ini : Iv H
  lay : ∀ H' D o, H D = none → Iv H' → Iv (upd H' D o)
  st : ∀ D acc i y H1 H2, H D = none → H1 D = some (.lst acc) → Keep (fun b => p b ∨ b = D) H1 H2 → Rl D i y H1 → Rl D i y H2
theorem lcRelIn {J : It} {n : Nat} {G : Hp → Prop} {Y : Nat → Hp → V → Hp → Prop} (w : Walk J n G Y) (few : n < sizeLine) (L : LcAsk p H Iv Rl) (hG : ∀ H', Keep p H H' → Iv H' → G H')
    (yk : ∀ i x H1 H', Keep p H H1 → Iv H1 → Y i H1 x H' → Keep p H1 H' ∧ Iv H')
    (step : ∀ D acc i x H1 H' (N : VK), i < n → H D = none → H' D = some (.lst acc) → Keep p H H' → Iv H' → Y i H1 x H' → (∀ y H4, Keep p H' H4 → Iv H4 → Rl D i y H4 → N y H4) → g x (wipe σ vs) H' fun σ2 H2 => wipe σ2 vs = wipe σ vs ∧ te σ2 H2 N)
    (hd : ∀ D H' ys, H D = none → Keep p H H' → Iv H' → H' D = some (.lst ys) → ys.length = n → (∀ i y, ys[i]? = some y → Rl D i y H') → Q (.ref D) H') : LcIn J g tYes te vs σ Q H := by
  refine lcAnyIn w (fun D i H' => Keep p H H' ∧ Iv H' ∧ ∃ ys, H' D = some (.lst ys) ∧ ys.length = i ∧ ∀ j y, ys[j]? = some y → Rl D j y H') (fun D nD => ⟨(Keep.refl H).new nD, L.lay _ _ _ nD L.ini, [], upd_same, rfl, fun j y e => by simp at e⟩) (fun D i H' _ q => hG H' q.1 q.2.1) ?_ ?_
  · rintro D nD i x H1 H' hi ⟨k1, i1, ys, e1, l1, r1⟩ y
    obtain ⟨k2, i2⟩ := yk i x H1 H' k1 i1 y
    have pD : ¬ p D := fun z => L.at_ D z nD
    have e2 : H' D = some (.lst ys) := k2 D _ pD e1
    refine step D ys i x H1 H' (fun y H4 => ∃ acc, H4 D = some (.lst acc) ∧ acc.length < sizeLine ∧ (Keep p H (upd H4 D (.lst (acc ++ [y]))) ∧ Iv (upd H4 D (.lst (acc ++ [y]))) ∧ ∃ ys, upd H4 D (.lst (acc ++ [y])) D = some (.lst ys) ∧ ys.length = i + 1 ∧ ∀ j z, ys[j]? = some z → Rl D j z (upd H4 D (.lst (acc ++ [y]))))) hi nD e2 (k1.trans k2) i2 y fun v H4 k4 i4 r4 => ?_
    have e4 : H4 D = some (.lst ys) := k4 D _ pD e2
    have kD : Keep (fun b => p b ∨ b = D) H4 (upd H4 D (.lst (ys ++ [v]))) := fun b o nb e => by
      rw [upd_ne fun z => nb (.inr z)]
      exact e
    have kH : Keep (fun b => p b ∨ b = D) H1 H4 := fun b o nb e => k4 b o (fun z => nb (.inl z)) (k2 b o (fun z => nb (.inl z)) e)
    refine ⟨ys, e4, by omega, ((k1.trans k2).trans k4).new nD, L.lay _ _ _ nD i4, ys ++ [v], upd_same, by simp [l1], fun j z e => ?_⟩
    by_cases hj : j < ys.length
    · rw [List.getElem?_append_left hj] at e
      exact L.st D ys j z H1 _ nD e1 (kH.trans kD) (r1 j z e)
    · have hj' : j = ys.length := by
        have := (List.getElem?_eq_some_iff.mp e).1
        simp at this
        omega
      subst hj'
      simp at e
      subst e
      rw [l1]
      exact L.st D ys i _ H4 _ nD e4 kD r4
  · rintro D nD H' ⟨k1, i1, ys, e1, l1, r1⟩
    exact hd D H' ys nD k1 i1 e1 l1 r1
theorem lcRel {J : It} {n : Nat} {G : Hp → Prop} {Y : Nat → Hp → V → Hp → Prop} (w : Walk J n G Y) {wi : TI} (hw : ∀ R : It → Hp → Prop, R J H → wi σ H R) (few : n < sizeLine) (L : LcAsk p H Iv Rl) (hG : ∀ H', Keep p H H' → Iv H' → G H')
    (yk : ∀ i x H1 H', Keep p H H1 → Iv H1 → Y i H1 x H' → Keep p H1 H' ∧ Iv H')
    (step : ∀ D acc i x H1 H' (N : VK), i < n → H D = none → H' D = some (.lst acc) → Keep p H H' → Iv H' → Y i H1 x H' → (∀ y H4, Keep p H' H4 → Iv H4 → Rl D i y H4 → N y H4) → g x (wipe σ vs) H' fun σ2 H2 => wipe σ2 vs = wipe σ vs ∧ te σ2 H2 N)
    (hd : ∀ D H' ys, H D = none → Keep p H H' → Iv H' → H' D = some (.lst ys) → ys.length = n → (∀ i y, ys[i]? = some y → Rl D i y H') → Q (.ref D) H') : tLc wi g tYes te vs σ H Q := hw _ (lcRelIn w few L hG yk step hd)
theorem lcRelL (ht : ∀ Q : VK, Q (.ref a) H → tl σ H Q) (L : LcAsk p H Iv Rl) (few : xs.length < sizeLine) (hs : ∀ H', Keep p H H' → Iv H' → SqL K H' a xs)
    (step : ∀ D acc i x H' (N : VK), xs[i]? = some x → H D = none → H' D = some (.lst acc) → Keep p H H' → Iv H' → (∀ y H4, Keep p H' H4 → Iv H4 → Rl D i y H4 → N y H4) → g x (wipe σ vs) H' fun σ2 H2 => wipe σ2 vs = wipe σ vs ∧ te σ2 H2 N)
    (hd : ∀ D H' ys, H D = none → Keep p H H' → Iv H' → H' D = some (.lst ys) → ys.length = xs.length → (∀ i y, ys[i]? = some y → Rl D i y H') → Q (.ref D) H') :
    tLc (fun σ H R => iList K tl σ H R ∨ iTup K tl σ H R ∨ iStr tl σ H R) g tYes te vs σ H Q :=
  lcRel walk_list (fun R r => .inl (ht _ ⟨a, rfl, ⟨xs, hs H (Keep.refl H) L.ini⟩, r⟩)) few L hs (fun i x H1 H' k v y => by
    obtain ⟨rfl, e⟩ := y
    exact ⟨Keep.refl _, v⟩) (fun D acc i x H1 H' N hi nD e k v y q => by
    obtain ⟨rfl, e'⟩ := y
    exact step D acc i x _ N e' nD e k v q) hd
theorem lcRelT (ht : ∀ Q : VK, Q (.ref a) H → tl σ H Q) (L : LcAsk p H Iv Rl) (few : xs.length < sizeLine) (hs : ∀ H', Keep p H H' → Iv H' → SqT K H' a xs)
    (step : ∀ D acc i x H' (N : VK), xs[i]? = some x → H D = none → H' D = some (.lst acc) → Keep p H H' → Iv H' → (∀ y H4, Keep p H' H4 → Iv H4 → Rl D i y H4 → N y H4) → g x (wipe σ vs) H' fun σ2 H2 => wipe σ2 vs = wipe σ vs ∧ te σ2 H2 N)
    (hd : ∀ D H' ys, H D = none → Keep p H H' → Iv H' → H' D = some (.lst ys) → ys.length = xs.length → (∀ i y, ys[i]? = some y → Rl D i y H') → Q (.ref D) H') :
    tLc (fun σ H R => iList K tl σ H R ∨ iTup K tl σ H R ∨ iStr tl σ H R) g tYes te vs σ H Q :=
  lcRel walk_tup (fun R r => .inr (.inl (ht _ ⟨a, rfl, ⟨xs, hs H (Keep.refl H) L.ini⟩, r⟩))) few L hs (fun i x H1 H' k v y => by
    obtain ⟨rfl, e⟩ := y
    exact ⟨Keep.refl _, v⟩) (fun D acc i x H1 H' N hi nD e k v y q => by
    obtain ⟨rfl, e'⟩ := y
    exact step D acc i x _ N e' nD e k v q) hd
theorem lcRelS {z : Str} (ht : ∀ Q : VK, Q (.str z) H → tl σ H Q) (L : LcAsk p H Iv Rl) (few : z.cps.size < sizeLine)
    (step : ∀ D acc i c H' (N : VK), z.cps[i]? = some c → H D = none → H' D = some (.lst acc) → Keep p H H' → Iv H' → (∀ y H4, Keep p H' H4 → Iv H4 → Rl D i y H4 → N y H4) → g (.str ⟨#[c]⟩) (wipe σ vs) H' fun σ2 H2 => wipe σ2 vs = wipe σ vs ∧ te σ2 H2 N)
    (hd : ∀ D H' ys, H D = none → Keep p H H' → Iv H' → H' D = some (.lst ys) → ys.length = z.cps.size → (∀ i y, ys[i]? = some y → Rl D i y H') → Q (.ref D) H') :
    tLc (fun σ H R => iList K tl σ H R ∨ iTup K tl σ H R ∨ iStr tl σ H R) g tYes te vs σ H Q :=
  lcRel walk_str (fun R r => .inr (.inr (ht _ ⟨z, rfl, r⟩))) few L (fun _ _ _ => trivial) (fun i x H1 H' k v y => by
    obtain ⟨rfl, e⟩ := y
    exact ⟨Keep.refl _, v⟩) (fun D acc i x H1 H' N hi nD e k v y q => by
    obtain ⟨rfl, c, e', rfl⟩ := y
    exact step D acc i c _ N e' nD e k v q) hd
theorem lcRelR {n : Nat} (ht : ∀ Q : List V → Hp → Prop, Q [.int (n : Int)] H → ta σ H Q) (L : LcAsk p H Iv Rl) (few : n < sizeLine)
    (step : ∀ D acc i H' (N : VK), i < n → H D = none → H' D = some (.lst acc) → Keep p H H' → Iv H' → (∀ y H4, Keep p H' H4 → Iv H4 → Rl D i y H4 → N y H4) → g (.int (i : Nat)) (wipe σ vs) H' fun σ2 H2 => wipe σ2 vs = wipe σ vs ∧ te σ2 H2 N)
    (hd : ∀ D H' ys, H D = none → Keep p H H' → Iv H' → H' D = some (.lst ys) → ys.length = n → (∀ i y, ys[i]? = some y → Rl D i y H') → Q (.ref D) H') :
    tLc (iRng1 ta) g tYes te vs σ H Q :=
  lcRel (walk_range (lo := 0) (n := n)) (fun R r => ht _ ⟨(n : Int), rfl, by omega, by rw [sizeLine_eq] at few; omega, by rw [Int.toNat_natCast]; exact r⟩) few L (fun _ _ _ => trivial) (fun i x H1 H' k v y => by
    obtain ⟨rfl, e⟩ := y
    exact ⟨Keep.refl _, v⟩) (fun D acc i x H1 H' N hi nD e k v y q => by
    obtain ⟨rfl, rfl⟩ := y
    show g (.int (0 + (i : Int))) _ _ _
    rw [Int.zero_add]
    exact step D acc i _ N hi nD e k v q) hd
theorem lcAsk0 (st : ∀ D acc i y H1 H2, H D = none → H1 D = some (.lst acc) → Keep (fun b => False ∨ b = D) H1 H2 → Rl D i y H1 → Rl D i y H2) : LcAsk (fun _ => False) H (fun _ => True) Rl := ⟨fun _ z => z.elim, trivial, fun _ _ _ _ _ => trivial, st⟩
/-- a tuple and a list side by side, where nothing changes -/
theorem lcRelZt {b : Addr} {ys : List V} {n : Nat} (hn : n = min xs.length ys.length) (L : LcAsk (fun _ => False) H (fun _ => True) Rl) (few : n < sizeLine) (hs : ∀ H', Same H H' → SqT K H' a xs ∧ SqL K H' b ys)
    (step : ∀ D acc i x y H' T (N : VK), xs[i]? = some x → ys[i]? = some y → H D = none → H' D = some (.lst acc) → Same H H' → H' T = some (.tup [x, y]) → (∀ v H4, Same H' H4 → Rl D i v H4 → N v H4) → g (.ref T) (wipe σ vs) H' fun σ2 H2 => wipe σ2 vs = wipe σ vs ∧ te σ2 H2 N)
    (hd : ∀ D H' zs, H D = none → Same H H' → H' D = some (.lst zs) → zs.length = n → (∀ i y, zs[i]? = some y → Rl D i y H') → Q (.ref D) H') :
    LcIn (ItZt K a b) g tYes te vs σ Q H :=
  lcRelIn (walkZt hn) few L (fun H' k _ => hs H' k.same) (fun i x H1 H' k _ y => by
    obtain ⟨T, u, v, rfl, n, rfl, e1, e2⟩ := y
    exact ⟨(Keep.refl H1).new n, trivial⟩) (fun D acc i x H1 H' N hi nD e k _ y q => by
    obtain ⟨T, u, v, rfl, n, rfl, e1, e2⟩ := y
    exact step D acc i u v _ T N e1 e2 nD e k.same upd_same fun w H4 s r => q w H4 (Keep.of s) trivial r) (fun D H' zs nD k _ e l r => hd D H' zs nD k.same e l r)
end
/-- a relation that looks at no place -/
theorem lcAskP {H : Hp} {f : Nat → V} : LcAsk (fun _ => False) H (fun _ => True) (fun _ i y _ => y = f i) := lcAsk0 fun _ _ _ _ _ _ _ _ _ e => e

theorem list_of_at {α : Type} {ys : List α} {n : Nat} {f : Nat → α} (l : ys.length = n) (r : ∀ i y, ys[i]? = some y → y = f i) : ys = (List.range n).map f := by
  refine List.ext_getElem (by simp [l]) fun i h1 h2 => ?_
  rw [List.getElem_map, List.getElem_range]
  exact r i _ (List.getElem?_eq_getElem h1)
theorem rAll_of {K : PySem.W.Frag} {H : Hp} {D : Addr} {ys : List V} {n : Nat} {b : Nat → Bool} {Q : VK} (e : H D = some (.lst ys)) (l : ys.length = n) (r : ∀ i y, ys[i]? = some y → y = V.bl (b i)) (q : Q (.bl ((List.range n).all b)) H) : rAll K [.ref D] H Q := by
  refine ⟨D, (List.range n).map b, rfl, SqL.of ?_, ?_⟩
  · rw [e, list_of_at (f := fun i => V.bl (b i)) l r, List.map_map]
    rfl
  · rw [List.all_map]
    exact q
theorem all_at {α : Type} (xs : List α) (p : α → Bool) : (List.range xs.length).all (fun i => (xs[i]?).any p) = xs.all p := by
  induction xs with
  | nil => rfl
  | cons x xs ih =>
    rw [List.length_cons, List.range_succ_eq_map, List.all_cons, List.all_map, List.all_cons]
    congr 1

theorem names_vals {K : PySem.W.Frag} {H : Hp} : ∀ {xs : List V} {ds : List PyData}, DpAll K H xs ds → ds.all isNameD = true → xs = (strsOf ds).map V.str ∧ (strsOf ds).length = ds.length
  | _, _, .nil, _ => ⟨rfl, rfl⟩
  | _, _, .cons (d := d) h t, e => by
    rw [List.all_cons, Bool.and_eq_true] at e
    obtain ⟨i1, i2⟩ := names_vals t e.2
    cases d with
    | str z =>
      cases dp_str h
      exact ⟨by rw [i1]; rfl, congrArg (· + 1) i2⟩
    | _ => exact absurd e.1 (by simp [isNameD])
/-- what are_desks may be asked: texts that fit; where all are names, unlike ones -/
def okDesks (d : PyData) : Prop := ∀ ds, d = .tuple ds → (∀ e ∈ ds, fitsD e) ∧ (ds.all isNameD = true → (strsOf ds).Nodup)

/-! ### the top's constants, told -/
mutual
theorem den_dp {K : PySem.W.Frag} : ∀ (n : Nat) (u : Value) (d : PyData), denK K n u = some d → ∃ v, RelV v u ∧ ∀ H, Dp K H v d
  | _, .none, d, e => by
    simp only [denK, Option.some.injEq] at e
    subst e
    exact ⟨.non, rfl, fun _ => .non⟩
  | _, .bool b, d, e => by
    simp only [denK, Option.some.injEq] at e
    subst e
    exact ⟨.bl b, rfl, fun _ => .bl b⟩
  | _, .int i t, d, e => by
    simp only [denK, Option.some.injEq] at e
    subst e
    exact ⟨.int i, ⟨t, rfl⟩, fun _ => .int i⟩
  | _, .str x t, d, e => by
    simp only [denK, Option.some.injEq] at e
    subst e
    exact ⟨.str x, ⟨t, rfl⟩, fun _ => .str x⟩
  | n + 1, .ref a, d, e => by
    unfold denK at e
    split at e
    · rename_i dd its m sl hl
      split at e
      · rename_i hz
        rw [Option.map_eq_some_iff] at e
        obtain ⟨ds, e1, rfl⟩ := e
        obtain ⟨vs, r, h⟩ := dens_dp n its.toList ds e1
        exact ⟨.ref a, rfl, fun H => .tup (.inr ⟨_, its, m, hl, rfl, rfl, Nat.le_trans hz (by decide), r⟩) (h H)⟩
      · cases e
    · cases e
  | 0, .ref a, d, e => by
    simp [denK] at e
  | _, .ellipsis, _, e => by simp [denK] at e
  | _, .notImplemented, _, e => by simp [denK] at e
  | _, .float _ _, _, e => by simp [denK] at e
  | _, .bytes _ _, _, e => by simp [denK] at e
  | _, .builtin _, _, e => by simp [denK] at e
  | _, .type _, _, e => by simp [denK] at e
theorem dens_dp {K : PySem.W.Frag} (n : Nat) : ∀ (us : List Value) (ds : List PyData), us.mapM (denK K n) = some ds → ∃ vs, Vals vs us ∧ ∀ H, DpAll K H vs ds
  | [], ds, e => by
    simp only [List.mapM_nil, Option.pure_def, Option.some.injEq] at e
    subst e
    exact ⟨[], .nil, fun _ => .nil⟩
  | u :: us, ds, e => by
    rw [List.mapM_cons] at e
    cases e1 : denK K n u with
    | none => rw [e1] at e; cases e
    | some d =>
      rw [e1] at e
      cases e2 : us.mapM (denK K n) with
      | none => rw [e2] at e; cases e
      | some es =>
        rw [e2] at e
        simp only [Option.bind_eq_bind, Option.bind_some, Option.pure_def, Option.some.injEq] at e
        subst e
        obtain ⟨v, r, h⟩ := den_dp n u d e1
        obtain ⟨vs, rs, hs⟩ := dens_dp n us es e2
        exact ⟨v :: vs, .cons r rs, fun H => .cons (h H) (hs H)⟩
end
theorem den_ref {K : PySem.W.Frag} {n : Nat} {a : Addr} {d : PyData} (e : denK K n (.ref a) = some d) (H : Hp) : Dp K H (.ref a) d := by
  obtain ⟨v, r, h⟩ := den_dp n _ d e
  have : v = .ref a := by
    cases v with
    | ref b => injection (show Value.ref a = Value.ref b from r) with z; rw [z]
    | non => exact absurd (show Value.ref a = Value.none from r) (by intro z; cases z)
    | bl _ => exact absurd r (by intro z; cases z)
    | int _ => obtain ⟨_, z⟩ := r; cases z
    | str _ => obtain ⟨_, z⟩ := r; cases z
    | byt _ => obtain ⟨_, z⟩ := r; cases z
    | flt _ => obtain ⟨_, z⟩ := r; cases z
    | ty _ => exact absurd r (by intro z; cases z)
  subst this
  exact h H
theorem dps_strs {K : PySem.W.Frag} {H : Hp} : ∀ {vs : List V} {ws : List Str}, DpAll K H vs (ws.map PyData.str) → vs = ws.map V.str
  | [], [], _ => rfl
  | _ :: _, [], h => nomatch h
  | [], _ :: _, h => nomatch h
  | v :: vs, w :: ws, .cons h t => by
    cases dp_str h
    rw [dps_strs t]
    rfl
theorem dp_strs {K : PySem.W.Frag} {H : Hp} {v : V} {ws : List Str} (h : Dp K H v (.tuple (ws.map PyData.str))) : ∃ a, v = .ref a ∧ SqT K H a (ws.map V.str) := by
  obtain ⟨a, xs, rfl, h1, h2⟩ := dp_tup h
  exact ⟨a, rfl, dps_strs h2 ▸ h1⟩

/-! ### forms -/
def statusesS : List Str := ["new", "open", "waiting", "closed"]
def eventsS : List Str := ["letter", "answer", "day", "moved", "status", "replied"]
def isBoolD : PyData → Bool
  | .bool _ => true
  | _ => false
def isDaysD : PyData → Bool
  | .int n => decide (1 ≤ n) && decide (n ≤ 30)
  | _ => false
/-- a value of the kind that a form names -/
def fitsKind (dsk : List Str) (k : Str) (d : PyData) : Bool :=
  if k = "status" then isWordD statusesS d else if k = "desk" then isWordD dsk d else if k = "wanted" then isBoolD d else isDaysD d
def formIs (w : Str) (n : Nat) (f : List Str) : Bool := decide (f.head? = some w) && decide (f.tail.length = n)
def hasForm (fs : List (List Str)) (dsk : List Str) : PyData → Bool
  | .tuple (.str w :: rest) => match fs.find? (formIs w rest.length) with
    | some f => (rest.zip f.tail).all fun p => fitsKind dsk p.2 p.1
    | none => false
  | _ => false
def formsD (fs : List (List Str)) : PyData := .tuple (fs.map fun f => .tuple (f.map PyData.str))
def testForms : List (List Str) := [["status", "status", "wanted"], ["desk", "desk", "wanted"], ["answered", "wanted"], ["marked", "wanted"], ["days", "days"]]
def actionForms : List (List Str) := [["status", "status"], ["desk", "desk"], ["reply"], ["mark", "wanted"], ["stop"]]
def deedForms : List (List Str) := [["letter"], ["answer"], ["day"], ["hand", "desk"], ["set", "status"]]
/-- _fits(value, kind, desks) -/
def spFits (K : PySem.W.Frag) : Sp := fun vs H Q _ => ∃ v d k a dsk, vs = [v, .str k, .ref a] ∧ Dp K H v d ∧ SqT K H a (List.map V.str dsk) ∧ ∀ H', Same H H' → Q (.bl (fitsKind dsk k d)) H'
/-- _has_form(value, forms, desks) -/
def spForm (K : PySem.W.Frag) : Sp := fun vs H Q _ => ∃ v d vf fs a dsk, vs = [v, vf, .ref a] ∧ Dp K H v d ∧ (∀ ds, d = .tuple ds → ds.length ≤ 1000) ∧ Dp K H vf (formsD fs) ∧ (∀ f ∈ fs, f ≠ [] ∧ f.length ≤ 1000) ∧ SqT K H a (List.map V.str dsk) ∧ ∀ H', Same H H' → Q (.bl (hasForm fs dsk d)) H'

theorem cut_tail (x : V) (xs : List V) : cutV (x :: xs) (some 1) none = xs := by
  unfold cutV
  rw [HT.sIx_none, show (some 1 : Option Int) = some ((1 : Nat) : Int) from rfl, HT.sIx_nat, List.length_cons, Nat.min_eq_left (by omega)]
  show (xs.take (xs.length + 1 - 1)) = xs
  rw [Nat.add_sub_cancel, List.take_length]
theorem sl_tail {K : PySem.W.Frag} {a : Addr} {x : V} {xs : List V} {H : Hp} {Q : VK} (h : SqT K H a (x :: xs)) (q : ∀ p, H p = none → Q (.ref p) (upd H p (.tup xs))) : rSlA K (.ref a) (some 1) none H Q :=
  ⟨a, x :: xs, rfl, h, fun z => by
    have z := z.1
    rw [show (some 1 : Option Int) = some ((1 : Nat) : Int) from rfl, HT.sIx_nat, List.length_cons] at z
    omega, fun _ p hp => by
    rw [cut_tail]
    exact q p hp⟩
theorem fits_at (dsk : List Str) (rest : List PyData) (ks : List Str) (e : ks.length = rest.length) : (List.range rest.length).all (fun i => ((rest.zip ks)[i]?).any fun p => fitsKind dsk p.2 p.1) = (rest.zip ks).all fun p => fitsKind dsk p.2 p.1 := by
  have h := all_at (rest.zip ks) fun p => fitsKind dsk p.2 p.1
  rw [List.length_zip, e, Nat.min_self] at h
  exact h

theorem find_at {α : Type} {p : α → Bool} : ∀ {l : List α} {i : Nat} {x : α}, (∀ y ∈ l.take i, p y = false) → l[i]? = some x → p x = true → l.find? p = some x
  | [], i, x, _, h, _ => by simp at h
  | a :: l, 0, x, _, h, hp => by
    simp at h
    subst h
    rw [List.find?_cons_of_pos hp]
  | a :: l, i + 1, x, no, h, hp => by
    have ha : p a = false := no a (by simp)
    rw [List.find?_cons_of_neg (by rw [ha]; exact Bool.false_ne_true)]
    exact find_at (i := i) (fun y hy => no y (by rw [List.take_succ_cons]; exact List.mem_cons_of_mem _ hy)) (by simpa using h) hp
/-- a rule with these desks, by its data -/
def isRuleD (dsk : List Str) : PyData → Bool
  | .tuple [ev, .tuple ts, .tuple as] => isWordD eventsS ev && decide (ts.length ≤ 4) && ts.all (hasForm testForms dsk) && decide (1 ≤ as.length) && decide (as.length ≤ 4) && as.all (hasForm actionForms dsk)
  | _ => false
def isDeedD (dsk : List Str) (d : PyData) : Bool := hasForm deedForms dsk d
/-- no tuple within is longer than one may pass -/
def okForm (d : PyData) : Prop := ∀ ds, d = .tuple ds → ds.length ≤ 1000
/-- a question about a value and the desks -/
def spDesk (K : PySem.W.Frag) (ok : PyData → Prop) (g : List Str → PyData → Bool) : Sp := fun vs H Q _ => ∃ v d a dsk, vs = [v, .ref a] ∧ Dp K H v d ∧ ok d ∧ SqT K H a (List.map V.str dsk) ∧ ∀ H', Same H H' → Q (.bl (g dsk d)) H'
theorem spDesk_len {K : PySem.W.Frag} {ok : PyData → Prop} {g : List Str → PyData → Bool} : ∀ vs H Q E, spDesk K ok g vs H Q E → vs.length = 2 := by
  rintro _ _ _ _ ⟨_, _, _, _, rfl, _⟩
  rfl
/-- what is_rule may be asked -/
def okRule (d : PyData) : Prop := (∀ e ts x, d = .tuple [e, .tuple ts, x] → ∀ t ∈ ts, okForm t) ∧ ∀ e x as, d = .tuple [e, x, .tuple as] → ∀ t ∈ as, okForm t
theorem forms_ok : (∀ f ∈ testForms, f ≠ [] ∧ f.length ≤ 1000) ∧ (∀ f ∈ actionForms, f ≠ [] ∧ f.length ≤ 1000) ∧ ∀ f ∈ deedForms, f ≠ [] ∧ f.length ≤ 1000 := by
  decide +kernel
end Ld

set_option Elab.async false
set_option linter.all false
set_option maxRecDepth 100000
set_option maxHeartbeats 2000000
/-! Errors: what a made error is, by its field; a plain error of the package (one text). -/
namespace Ld
open PySem PySem.Spec PyProof.Rows L2
theorem relO_one {n : Str} {v : V} {v' : Value} (r : RelV v v') (f : Str) : RelO (List.lookup f [(n, v)]) (if f = n then some v' else none) := by
  by_cases hw : f = n
  · subst hw
    rw [if_pos rfl]
    have q : List.lookup f [(f, v)] = some v := by simp [List.lookup]
    rw [q]
    exact r
  · rw [if_neg hw]
    have qw : (f == n) = false := by simpa using hw
    have q2 : List.lookup f [(n, v)] = none := by simp [List.lookup, qw]
    rw [q2]
    trivial
/-- E(v), E with the field n -/
def tMkF (C : Addr) (n : Str) (ta : TA) : L2.St → Hp → XK → Prop := fun σ H Q => ta σ H fun vs H1 => ∃ v, vs = [v] ∧ ∀ d, H1 d = none → Q (.ref C) (some d) (upd H1 d (.xd [(n, v)]))
def tRaiseF (C : Addr) (n : Str) (W : WX) (ta : TA) : TS := fun _ σ H => tMkF C n ta σ H fun cls d H' => W cls d σ H'
/-- a class of errors made of one text -/
structure PlainE (K : PySem.W.Frag) (C : Addr) : Prop where
  q : PySem.W.excIn K C PySem.HandSPX.veTail "ValueError.__new__" = true
  k : PySem.W.keepIn K (.ref C) = true
  e : PySem.W.subIn K (.ref C) (.type "BaseException") = some true
  t : PySem.W.typeIn K (.ref C) = some (.type "type")
end Ld

set_option Elab.async false
set_option linter.all false
set_option maxRecDepth 100000
set_option maxHeartbeats 2000000
/-! Own classes' +, ==, [], len: a def of the class is called; what it raises goes by the slots. -/
namespace Ld
open PySem PySem.Spec PyProof.Rows L2
section
variable {X : Cx} {m : Str} {ps : List Str} {k : Nat} {sp : Sp} {E : L2.St → XK} {C : Addr}
theorem ins_at {pins : List (Addr × Obj)} {σ : L2.St} {H : Hp} {s : Shared} {a dx : Addr} {fs : List (Str × V)} (I : Inv X pins σ H s) (e : H a = some (.ins C dx fs)) : ∃ od, PySem.W.InstAt s.heap a (PySem.W.instObj C dx) C (some od) := by
  obtain ⟨mA, O, _⟩ := ins_get I.hok e
  obtain ⟨od, J, _⟩ := O.look
  exact ⟨od, J⟩
theorem run_own {pins : List (Addr × Obj)} {σ : L2.St} {H : Hp} {s : Shared} {Q : VK} {us : List Value} {vs : List V} {f : Addr} {fd : FuncData} (F : FnOk X.prog X.w X.K X.mg X.base (L2.CX X.prog X.w) k f fd ps sp) (hr : Room k X.A) (hb : Binds X.K fd ps []) (hx : PassesAt (L2.CX X.prog X.w) X σ (E σ))
    (I : Inv X pins σ H s) (r : Vals vs us) (h : sp vs H Q (E σ)) : wpAny (model X.prog X.w) X.A (call (.ref f) us) (EP X pins σ Q) X.xe s := run_fnS F hr hb hx I r h
theorem cmpback {P : Value → Shared → Prop} {z : V} {v : Value} {s' : Shared} (r : RelV z v) (h : P v s') : PySem.W.CmpBack P v s' := by
  cases z <;> first
    | exact (by obtain ⟨t, e⟩ := (show ∃ t, v = _ from r); cases e; exact h)
    | exact (by cases (show v = _ from r); exact h)
    | exact (by cases r; exact h)
/-- x + y, both of the class at C -/
def rOwn2 (C : Addr) (sp : Sp) (E : XK) : R2 := fun x y H Q => ∃ a dx fs b dy gs, x = .ref a ∧ y = .ref b ∧ H a = some (.ins C dx fs) ∧ H b = some (.ins C dy gs) ∧ sp [x, y] H Q E
theorem add_own {σ : L2.St} (D : MethOk X.prog X.w X.K X.mg X.base C "__add__" ps k sp) {n : Nat} (hr : Room n X.A) (hk : k ≤ n) (hc : PySem.W.selfFirst X.K C = true) (hx : PassesAt (L2.CX X.prog X.w) X σ (E σ))
    {pins : List (Addr × Obj)} {s : Shared} {H : Hp} {x y : V} {v u : Value} {Q : VK} (I : Inv X pins σ H s) (rx : RelV x v) (ry : RelV y u) (h : rOwn2 C sp (E σ) x y H Q) : wpAny (model X.prog X.w) X.A (binaryOp .Add v u) (EP X pins σ Q) X.xe s := by
  obtain ⟨c, f, fd, M, hb, F, _⟩ := D
  obtain ⟨a, dx, fs, b, dy, gs, rfl, rfl, ha, hb', q⟩ := h
  cases (show v = Value.ref a from rx)
  cases (show u = Value.ref b from ry)
  obtain ⟨od, J⟩ := ins_at I ha
  obtain ⟨od', J'⟩ := ins_at I hb'
  obtain ⟨mm, hF⟩ := I.fr
  refine PySem.W.binop_K (op := .Add) hF I.ok.mod.kin J J'.type hc M.at_ M.fn ?_
  refine wpAny_mono (run_own (us := [.ref a, .ref b]) (vs := [.ref a, .ref b]) F (hr.mono hk) hb hx I (.cons rfl (.cons rfl .nil)) q) (fun w s' z => ?_) fun _ _ x => x
  obtain ⟨z', H', I', rz, qz⟩ := z
  exact cmpback rz ⟨z', H', I', rz, qz⟩
theorem op_addO {E : XK} (D : MethOk X.prog X.w X.K X.mg X.base C "__add__" ps k sp) {n : Nat} (hr : Room n X.A) (hc : PySem.W.selfFirst X.K C = true) (hx : Passes (L2.CX X.prog X.w) X E) (hk : k ≤ n := by omega) : OpR X (binaryOp .Add) (rOwn2 C sp E) :=
  fun pins s σ H x y v u Q I rx ry h => add_own (E := fun _ => E) D hr hk hc (fun pins H s e s' I c => hx pins σ H s e s' I c) I rx ry h
def tOwn2S (C : Addr) (sp : Sp) (E : L2.St → XK) (ta tb : TE) : TE := fun σ H Q => ta σ H fun x H1 => tb σ H1 fun y H2 => rOwn2 C sp (E σ) x y H2 Q
theorem pe_addS {a b : Expr} {ta tb : TE} {pos : Pos} (D : MethOk X.prog X.w X.K X.mg X.base C "__add__" ps k sp) {n : Nat} (hr : Room n X.A) (hc : PySem.W.selfFirst X.K C = true) (hx : ∀ σ, PassesAt (L2.CX X.prog X.w) X σ (E σ)) (ha : PE X a ta) (hb : PE X b tb) (hk : k ≤ n := by omega) :
    PE X (a.BinOp .Add b pos) (tOwn2S C sp E ta tb) := by
  refine ⟨fun pins s σ H Q I h => ?_⟩
  exact wpAny_BinOp (binT ha hb I h fun v u s2 x y H2 I2 rx ry q => add_own D hr hk hc (hx σ) I2 rx ry q)
/-- x == y, both of the class at C -/
theorem op_eqO {E : XK} (D : MethOk X.prog X.w X.K X.mg X.base C "__eq__" ps k sp) {n : Nat} (hr : Room n X.A) (hc : PySem.W.notFirst X.K C (.ref C) = true) (hx : Passes (L2.CX X.prog X.w) X E) (hk : k ≤ n := by omega) : OpR X (compareOp .Eq) (rOwn2 C sp E) := by
  intro pins s σ H x y v u Q I rx ry h
  obtain ⟨c, f, fd, M, hb, F, _⟩ := D
  obtain ⟨a, dx, fs, b, dy, gs, rfl, rfl, ha, hb', q⟩ := h
  cases (show v = Value.ref a from rx)
  cases (show u = Value.ref b from ry)
  obtain ⟨od, J⟩ := ins_at I ha
  obtain ⟨od', J'⟩ := ins_at I hb'
  obtain ⟨mm, hF⟩ := I.fr
  show wpAny _ _ (richCompare .Eq _ _) _ _ _
  refine PySem.W.cmp_K (op := .Eq) (tb := .ref C) hr.units0 hF I.ok.mod.kin J J'.type hc M.at_ M.fn ?_
  refine wpAny_mono (run_own (E := fun _ => E) (us := [.ref a, .ref b]) (vs := [.ref a, .ref b]) F (hr.mono hk) hb (fun pins H s e s' I c => hx pins σ H s e s' I c) I (.cons rfl (.cons rfl .nil)) q) (fun w s' z => ?_) fun _ _ x => x
  obtain ⟨z', H', I', rz, qz⟩ := z
  exact cmpback rz ⟨z', H', I', rz, qz⟩
/-- x[y], x of the class at C -/
def rOwnIx (C : Addr) (sp : Sp) (E : XK) : R2 := fun x y H Q => ∃ a dx fs, x = .ref a ∧ H a = some (.ins C dx fs) ∧ sp [x, y] H Q E
theorem MethAt.isDef {K : PySem.W.Frag} {qual : Str} {st : Stmt} (F : MethAt K C m qual st ps) : ∃ f, PySem.W.findIn K (.ref C) m = some (some (.ref f)) ∧ PySem.W.fnIn K f = true := by
  obtain ⟨f, fd, M, ⟨⟨oc, od, kV, doc, pm, an, cdv, ct, osl, e, l, _⟩, _⟩, _⟩ := F.ex
  refine ⟨f, M.at_, ?_⟩
  unfold PySem.W.fnIn
  rw [l]
theorem ix_own {σ : L2.St} {qual : Str} {st : Stmt} (At : MethAt X.K C "__getitem__" qual st ps) (D : MethOk X.prog X.w X.K X.mg X.base C "__getitem__" ps k sp) {n : Nat} (hr : Room n X.A) (hk : k + 1 ≤ n) (hx : PassesAt (L2.CX X.prog X.w) X σ (E σ)) (value slice : Expr)
    {pins : List (Addr × Obj)} {s : Shared} {H : Hp} {x y : V} {v u : Value} {Q : VK} (I : Inv X pins σ H s) (rx : RelV x v) (ry : RelV y u) (h : rOwnIx C sp (E σ) x y H Q)
    (hsl : subscripted slice true v u = runValue (.builtin "lifetime.subscript" ⟨[v, u], []⟩)) : wpAny (model X.prog X.w) X.A (subscriptTail value slice v u) (EP X pins σ Q) X.xe s := by
  obtain ⟨c, f, fd, M, hb, F, _⟩ := D
  obtain ⟨f', e1, e2⟩ := At.isDef
  rw [M.at_] at e1
  cases e1
  obtain ⟨a, dx, fs, rfl, ha, q⟩ := h
  cases (show v = Value.ref a from rx)
  obtain ⟨od, J⟩ := ins_at I ha
  obtain ⟨mm, hF⟩ := I.fr
  refine PySem.W.sub_K hF I.ok.mod.kin J M.at_ e2 M.fn ?_ hsl
  have l : [Value.ref a, u].length = ps.length := F.len _ _ _ _ q
  have b := hb s [.ref a, u] I.kIn (by rw [List.append_nil]; exact l)
  rw [List.append_nil] at b
  refine wpAny_call (codeAny_mono (F.run X.A.in1 X.stack s H ⟨[.ref a, u], []⟩ [.ref a, u] [.ref a, y] Q (E σ) (Room.in1 (hr.mono hk)) I.env0.in1 b (.cons rfl (.cons ry .nil)) q) fun r s' hq => ?_)
  cases r with
  | error e => exact hx pins H s e s' I hq
  | ok fl =>
    cases fl with
    | ret u => exact I.after hq
    | next => exact hq
    | brk => exact hq
    | cont => exact hq
def tOwnIxS (C : Addr) (sp : Sp) (E : L2.St → XK) (ta tb : TE) : TE := fun σ H Q => ta σ H fun x H1 => tb σ H1 fun y H2 => rOwnIx C sp (E σ) x y H2 Q
/-- x[y] where x is of the class at C -/
theorem pe_ixS {a b : Expr} {ta tb : TE} {pos : Pos} {qual : Str} {st : Stmt} (At : MethAt X.K C "__getitem__" qual st ps) (D : MethOk X.prog X.w X.K X.mg X.base C "__getitem__" ps k sp) {n : Nat} (hr : Room n X.A) (hx : ∀ σ, PassesAt (L2.CX X.prog X.w) X σ (E σ)) (ha : PE X a ta) (hb : PE X b tb)
    (hs : ∀ v u, subscripted b true v u = runValue (.builtin "lifetime.subscript" ⟨[v, u], []⟩) := by intro _ _; with_unfolding_all rfl) (hk : k + 1 ≤ n := by omega) : PE X (.Subscript a b pos) (tOwnIxS C sp E ta tb) := by
  refine ⟨fun pins s σ H Q I h => ?_⟩
  exact Subscript_ (binT ha hb I h fun v u s2 x y H2 I2 rx ry q => ix_own At D hr hk (hx σ) a b I2 rx ry q (hs v u))
/-- len(x), x of the class at C -/
def rOwnLen (C : Addr) (sp : Sp) (E : XK) : List V → Hp → VK → Prop := fun xs H Q => ∃ a dx fs, xs = [V.ref a] ∧ H a = some (.ins C dx fs) ∧ sp [.ref a] H (fun z H' => ∃ n : Nat, z = .int n ∧ (n : Int) < 2 ^ 62 ∧ Q z H') E
theorem call_lenO {E : XK} (D : MethOk X.prog X.w X.K X.mg X.base C "__len__" ps k sp) {n : Nat} (hr : Room n X.A) (hx : Passes (L2.CX X.prog X.w) X E) (hk : k + 1 ≤ n := by omega) : CallR X (.builtin "len") (rOwnLen C sp E) := by
  intro pins s σ H xs us Q I r h
  obtain ⟨a, dx, fs, rfl, ha, q⟩ := h
  obtain ⟨u, rfl, ru⟩ := r.one
  cases (show u = Value.ref a from ru)
  obtain ⟨c, f, fd, M, hb, F, _⟩ := D
  obtain ⟨od, J⟩ := ins_at I ha
  obtain ⟨mm, hF⟩ := I.fr
  refine PySem.W.len_K hF I.ok.mod.kin J M.at_ M.fn ?_
  have l : [Value.ref a].length = ps.length := F.len _ _ _ _ q
  have b := hb s [.ref a] I.kIn (by rw [List.append_nil]; exact l)
  rw [List.append_nil] at b
  refine wpAny_call (codeAny_mono (F.run X.A.in1 X.stack s H ⟨[.ref a], []⟩ [.ref a] [.ref a] _ E (Room.in1 (hr.mono hk)) I.env0.in1 b (.cons rfl .nil) q) fun r s' hq => ?_)
  cases r with
  | error e => exact hx pins σ H s e s' I hq
  | ok fl =>
    cases fl with
    | ret u =>
      obtain ⟨z, H', I', rz, n, e, hn, qz⟩ := I.after hq
      subst e
      obtain ⟨t, e⟩ := (show ∃ t, u = Value.int n t from rz)
      cases e
      exact ⟨⟨by omega, by omega⟩, .int n, H', I'.tok _, ⟨_, rfl⟩, qz⟩
    | next => exact hq
    | brk => exact hq
    | cont => exact hq
/-- x.m(..), what it raises by the slots -/
def tMethS (C : Addr) (m : Str) (sp : Sp) (E : L2.St → XK) (ta : TE) (t : TA) : TE := fun σ H Q => ta σ H fun x H1 => ∃ a dx fs, x = .ref a ∧ H1 a = some (.ins C dx fs) ∧ fs.lookup m = none ∧ t σ H1 fun vs H2 => sp (x :: vs) H2 Q (E σ)
theorem pe_methSD {pl : Sem Bool} {pos apos : Pos} {e o : Expr} {es : List Expr} {t : TA} {ta : TE} (D : MethOk X.prog X.w X.K X.mg X.base C m ps k sp) {n : Nat} (hr : Room n X.A) (he : PE X o ta) (hx : ∀ σ, PassesAt (L2.CX X.prog X.w) X σ (E σ)) (ha : PA X (e :: es) t) (hk : k ≤ n := by omega)
    (hst : starEach (e :: es) X.env = (false, eval e X.env) :: starEach es X.env := by rfl) (hpl : (backTo pos (starEach es X.env)).any (·.1) = false := by rfl)
    (ht : eval (.Call (.Attribute o m apos) (e :: es) [] pos) X.env = (do
      let ov ← eval o X.env
      standAt apos.atName
      let (f, first) ← holding [ov] (getMethod ov m pl)
      callWith pos f first (backTo pos (starEach (e :: es) X.env)) (backToKw pos (keywordEach [] X.env))) := by rfl) :
    PE X (.Call (.Attribute o m apos) (e :: es) [] pos) (tMethS C m sp E ta t) := by
  obtain ⟨c, f, fd, hm, hb, F, _⟩ := D
  refine ⟨fun pins s σ H Q I h => ?_⟩
  refine PySem.W.methodCall_KW (pl := pl) (thn (he.run pins s σ H _ I h) fun u s1 ⟨x, H1, I1, rx, a, dx, fs, ex, ea, l, q⟩ => ?_) ht
  subst ex
  obtain rfl : u = Value.ref a := rx
  refine getmeth_ok I1 ea c hm l ?_
  refine PySem.W.callWith_K (first := [.ref a]) (h₀ := X.base) I.ok.mod.kin hm.kp (thn (ha.run pos pins s1 σ H1 _ I1 q) fun us s2 ⟨vs, H2, I2, r, q2⟩ => ⟨I2.kIn, ?_⟩) hst hpl
  exact run_fnS (us := .ref a :: us) (vs := .ref a :: vs) F (hr.mono hk) hb (hx σ) I2 (.cons rfl r) q2
end
end Ld

set_option Elab.async false
set_option linter.all false
set_option maxRecDepth 100000
set_option maxHeartbeats 2000000
/-! Calls with one keyword: a method's only parameter by its name. -/
namespace Ld
open PySem PySem.Spec PyProof.Rows L2
def kwG {α : Type} (us ws : List α) : List α := match us, ws with
  | [a], [b] => [a, b]
  | _, _ => []
theorem kwG_rel {vs zs : List V} {us ws : List Value} (r : Vals vs us) (q : Vals zs ws) : Vals (kwG vs zs) (kwG us ws) := by
  cases r with
  | nil => cases q <;> exact .nil
  | cons a r => cases r with
    | nil => cases q with
      | nil => exact .nil
      | cons b q => cases q with
        | nil => exact .cons a (.cons b .nil)
        | cons _ _ => exact .nil
    | cons _ _ => cases q <;> exact .nil
theorem kb_one {K : PySem.W.Frag} {fd : FuncData} {a b : Str} (h : ∀ u w : Value, bindArgs fd ⟨[u], [(b, w)]⟩ = pure [(a, u), (b, w)]) : KBinds K fd [a, b] [b] kwG kwG := by
  refine ⟨fun s us ws _ hl => ?_, kwG_rel⟩
  match us, ws, hl with
  | [u], [w], _ => exact .of_eq (h u w)
/-- o.m(x = e) -/
def tMethK1 (C : Addr) (m : Str) (sp : Sp) (E : XK) (ta : TE) (tk : TA) : TE := fun σ H Q => ta σ H fun x H1 => ∃ a dx fs, x = .ref a ∧ H1 a = some (.ins C dx fs) ∧ fs.lookup m = none ∧ tk σ H1 fun zs H2 => ∃ z, zs = [z] ∧ sp [x, z] H2 Q E
theorem pe_methKD1 {X : Cx} {m qual kw a : Str} {st : Stmt} {k : Nat} {sp : Sp} {E : XK} {C : Addr} {o : Expr} {kws : List Keyword} {ta : TE} {tk : TA} {pos apos : Pos} {pl : Sem Bool}
    (At : MethAt X.K C m qual st [a, kw]) (D : MethOk X.prog X.w X.K X.mg X.base C m [a, kw] k sp) {n : Nat} (hr : Room n X.A) (he : PE X o ta) (hx : Passes (L2.CX X.prog X.w) X E) (hkw : PK X kws tk)
    (hb : ∀ (kV doc pm : Value) (an : Option Addr) (cdv ct : Value) (u w : Value), bindArgs (PySem.W.fnOf m qual (defArgs st) (defBody st) (defScope st) .none kV doc pm an cdv ct) ⟨[u], [(kw, w)]⟩ = pure [(a, u), (kw, w)]) (hk : k ≤ n := by omega)
    (hall : (backToKw pos (keywordEach kws X.env)).all (·.1.isSome) = true := by rfl) (hks : (backToKw pos (keywordEach kws X.env)).filterMap (·.1) = [kw] := by rfl)
    (hpl : ((backTo pos (starEach [] X.env)).any (·.1) || (backToKw pos (keywordEach kws X.env)).any (·.1.isNone)) = false := by rfl)
    (ht : eval (.Call (.Attribute o m apos) [] kws pos) X.env = (do
      let ov ← eval o X.env
      standAt apos.atName
      let (f, first) ← holding [ov] (getMethod ov m pl)
      callWith pos f first (backTo pos (starEach [] X.env)) (backToKw pos (keywordEach kws X.env))) := by rfl) :
    PE X (.Call (.Attribute o m apos) [] kws pos) (tMethK1 C m sp E ta tk) := by
  obtain ⟨c, f, fd, hm, _, F, lk⟩ := D
  obtain ⟨f', fd', hm', hf, _⟩ := At.ex
  have e1 := hm'.at_
  rw [hm.at_] at e1
  cases e1
  have e2 : fd' = fd := hf.lkF.inj lk
  subst e2
  obtain ⟨oc, od, kV, doc, pm, an, cdv, ct, osl, e, l, _⟩ := hf.ex
  subst e
  refine ⟨fun pins s σ H Q I h => ?_⟩
  refine PySem.W.methodCall_KW (pl := pl) (thn (he.run pins s σ H _ I h) fun u s1 ⟨x, H1, I1, rx, a, dx, fs, ex, ea, l, q⟩ => ?_) ht
  subst ex
  obtain rfl : u = Value.ref a := rx
  refine getmeth_ok I1 ea c hm l ?_
  refine PySem.W.callWith_KW0 (first := [.ref a]) (h₀ := X.base) I.ok.mod.kin hm.kp hall (thn (hkw.run pos pins s1 σ H1 _ I1 q) fun ws s2 ⟨zs, H2, I2, r, z, ez, q2⟩ => ⟨I2.kIn, ?_⟩) hpl
  subst ez
  obtain ⟨w, rfl, rw1⟩ := r.one
  rw [hks]
  exact run_fnk (us := [.ref a]) (vs := [.ref a]) (ws := [w]) (zs := [z]) F (hr.mono hk) (kb_one fun u w => hb kV doc pm an cdv ct u w) hx I2 (.cons rfl .nil) (.cons rw1 .nil) q2
end Ld

set_option Elab.async false
set_option linter.all false
set_option maxRecDepth 100000
set_option maxHeartbeats 2000000
/-! try with several clauses, some of them with a name. -/
namespace Ld
open PySem PySem.Spec PyProof.Rows L2
/-- the ends of a suite whose name goes behind it -/
def Ends.cut (i : Nat) (D : Ends) : Ends := ⟨fun τ G => D.nx (τ.set i none) G, D.rt, fun τ G => D.bk (τ.set i none) G, fun τ G => D.ct (τ.set i none) G⟩
abbrev Cl := Option Nat × Value × (Addr → Value → Option Addr → TS)
/-- what the clauses ask, from the first on; a number is the slot of a clause's name -/
def wMix (K : PySem.W.Frag) (W : WX) (D : Ends) : List Cl → WX
  | [] => W
  | (none, c, ts) :: r => fun k d τ G => ∃ y, PySem.W.exmOne K k c = some y ∧ (y = true → ∀ z, G z = none → ts z k d D τ G) ∧ (y = false → wMix K W D r k d τ G)
  | (some i, c, ts) :: r => fun k d τ G => ∃ y, PySem.W.exmOne K k c = some y ∧ (y = true → ∀ z, G z = none → ts z k d (Ends.cut i D) (τ.set i (some (.ref z))) G) ∧ (y = false → wMix K W D r k d τ G)
inductive MixOk (X : Cx) : List ExceptHandler → List Cl → Prop
  | nil : MixOk X [] []
  | bare {x : Str} {c : Value} {ts : Addr → Value → Option Addr → TS} {st : Stmt} {su : List Stmt} {p1 p2 : Pos} {hs : List ExceptHandler} {l : List Cl} (hc : Names X x c)
      (hu : ∀ (z : Addr) (oz : Obj) (k : Value) (d : Option Addr) (pn : List (Addr × Obj)), Zc k d oz → (∃ vs, oz.data = .fields vs) → PSs (X.suite z ((z, oz) :: pn)) (st :: su) (ts z k d)) (r : MixOk X hs l) :
      MixOk X (.ExceptHandler (some (.Name x p1)) none (st :: su) p2 :: hs) ((none, c, ts) :: l)
  | named {x n : Str} {i : Nat} {c : Value} {ts : Addr → Value → Option Addr → TS} {st : Stmt} {su : List Stmt} {p1 p2 : Pos} {hs : List ExceptHandler} {l : List Cl} (hN : X.N.Nodup) (hi : X.N[i]? = some n) (hn : X.env.kindOf n = some .local) (hc : Names X x c)
      (hu : ∀ (z : Addr) (oz : Obj) (k : Value) (d : Option Addr) (pn : List (Addr × Obj)), Zc k d oz → (∃ vs, oz.data = .fields vs) → PSs (X.suite z ((z, oz) :: pn)) (st :: su) (ts z k d)) (r : MixOk X hs l) :
      MixOk X (.ExceptHandler (some (.Name x p1)) (some n) (st :: su) p2 :: hs) ((some i, c, ts) :: l)
/-- an exception stands before the clauses -/
structure Fallen (X : Cx) (pins : List (Addr × Obj)) (τ : L2.St) (G : Hp) (z : Addr) (k : Value) (d : Option Addr) (B : Heap) (si s : Shared) (g : Heap) : Prop where
  ok : X.Ok
  fr : X.env.frame = some X.env.locals
  inv : Inv X pins τ G si
  nb : ∀ b o, si.heap.get? b = some o → b ∉ frs X.stack → B.get? b = some o
  os : s.os = si.os
  ag : AllBare s.gens
  none : G z = none
  fly : HandSPX.FlyingZ B (X.env :: X.outer) z (Zc k d) g
  up : si.heap.UpToSlots g
section
variable {X : Cx} {pins : List (Addr × Obj)} {τ : L2.St} {G : Hp} {z : Addr} {k : Value} {d : Option Addr} {B : Heap} {si s : Shared} {g : Heap}
theorem Fallen.at_ (F : Fallen X pins τ G z k d B si s g) : Inv X pins τ G { s with heap := g } := F.inv.landed F.nb F.fly.1 F.up F.os F.ag
/-- the suite's own state -/
theorem Fallen.sub (F : Fallen X pins τ G z k d B si s g) : ∃ oz vs, g.get? z = some oz ∧ Zc k d oz ∧ oz.data = .fields vs ∧ Inv (X.suite z ((z, oz) :: (X.pn ++ pins))) [] τ G { s with heap := g } := by
  obtain ⟨oz, vs, e1, e2, e3⟩ := F.fly.there
  have away : z ∉ frs (X.env :: X.outer) := fun m => by
    obtain ⟨_, o2, q1, q2⟩ := F.fly.2.2.1.mem m
    rw [e1] at q1
    cases q1
    exact q2 _ e3
  refine ⟨oz, vs, e1, e2, e3, F.at_.suite e1 e3 F.none (fun q => away ?_) fun m => ?_⟩
  · exact List.mem_filterMap.mpr ⟨X.env, List.mem_cons_self, F.fr.trans (congrArg some q.symm)⟩
  · obtain ⟨e, m1, m2⟩ := List.mem_filterMap.mp m
    exact away (List.mem_filterMap.mpr ⟨e, List.mem_cons_of_mem _ m1, m2⟩)
theorem Fallen.again (F : Fallen X pins τ G z k d B si s g) {M : Model} {A : Around} {E : Value → Shared → Prop} {Q : Unit → Shared → Prop} (q : ∀ g2, Fallen X pins τ G z k d B si s g2 → Q () { s with heap := g2 }) : wpAny M A (setFlight (.ref z) Option.none) Q E { s with heap := g } :=
  HandSPX.lands_againZ F.fly fun g2 f2 u2 => q g2 ⟨F.ok, F.fr, F.inv, F.nb, F.os, F.ag, F.none, f2, F.up.trans u2⟩
/-- the class of a clause, looked up -/
theorem Fallen.ask (F : Fallen X pins τ G z k d B si s g) {x : Str} {c : Value} {p1 : Pos} (hc : Names X x c) {Q : Value → Shared → Prop} {E : Value → Shared → Prop} (q : Q c { s with heap := g }) :
    wpAny (model X.prog X.w) (X.A.mark (some (.ref z))) (eval (.Name x p1) X.env) Q E { s with heap := g } := by
  obtain ⟨oz, _, _, _, _, J⟩ := F.sub
  obtain ⟨y1, y2, y3⟩ := hc
  rcases y3 with y3 | ⟨y3, y4, y5⟩
  · exact ld_glob (X := X.suite z ((z, oz) :: (X.pn ++ pins))) J y1 y3 q y2
  · exact ld_blt (X := X.suite z ((z, oz) :: (X.pn ++ pins))) J y1 y3 y4 q y5 y2
theorem Fallen.is (F : Fallen X pins τ G z k d B si s g) {c : Value} {y : Bool} (e : PySem.W.exmOne X.K k c = some y) : PySem.W.Looks (model X.prog X.w) g (excMatches (.ref z) c) y := by
  obtain ⟨oz, _, e1, e2, _⟩ := F.sub
  exact PySem.W.exm_one F.at_.kIn (fun A Q E s2 k2 q => wpAny_typeOf_ref (k2 _ _ e1) (e2.1 ▸ q)) e
/-- no clause takes it -/
theorem Fallen.gone (F : Fallen X pins τ G z k d B si s g) {W : WX} {D : Ends} (tk : Takes X W) (hs : X.stack = X.env :: X.outer) (w : W k d τ G) : wpAny (model X.prog X.w) X.A (handleBy (.ref z) X.env []) (SP X pins D) X.xe { s with heap := g } := by
  refine wpAny_handleBy_nil ?_
  obtain ⟨_, _, _, _, _, T, _, _, e1, _, e3, e4, _⟩ := id F.fly
  have last : wpAny (model X.prog X.w) X.A (setFlight (.ref z) X.env.frame) (fun _ s4 => wpAny (model X.prog X.w) X.A (throw (.ref z) : Sem Flow) (SP X pins D) X.xe s4) X.xe { s with heap := g } := by
    rw [F.fr]
    refine HandSPX.setFlight_upZ F.fly fun g2 h2 u2 => wpAny_throw (tk _ _ ?_)
    exact ⟨z, B, si, pins, τ, G, k, d, rfl, F.inv, F.nb, F.up.trans u2, .inr (.inr (hs ▸ h2)), F.none, F.os, F.ag, w⟩
  unfold PySem.passOn
  refine wpAny_bind (wpAny_field e1 e3 e4 ?_)
  rw [if_neg (by simp)]
  first
    | exact wpAny_bind (wpAny_pure (wpAny_bind last))
    | exact wpAny_bind last
theorem Fallen.mix {W : WX} {D : Ends} (tk : Takes X W) (hs : X.stack = X.env :: X.outer) {hds : List ExceptHandler} {l : List Cl} (hh : MixOk X hds l) : ∀ {g : Heap}, Fallen X pins τ G z k d B si s g → wMix X.K W D l k d τ G → wpAny (model X.prog X.w) X.A (handleBy (.ref z) X.env hds) (SP X pins D) X.xe { s with heap := g } := by
  induction hh with
  | nil => exact fun F w => F.gone tk hs w
  | bare hc hu r ih =>
    rintro g F ⟨y, e, yes, no⟩
    refine wpAny_handleBy_cons (codeAny_handlers_test (F.ask hc ((F.is e).here ?_))) (by intro q; cases q)
    cases y with
    | false => exact ih F (no rfl)
    | true =>
      refine codeAny_handlers_suite (F.again fun g2 F2 => ?_)
      obtain ⟨oz, vs, _, e2, e3, J⟩ := F2.sub
      refine wpAny_mono ((hu z oz k d (X.pn ++ pins) e2 ⟨vs, e3⟩).run [] _ _ G _ J (yes rfl z F.none)) (fun f s6 hf => ?_) fun _ _ q => q.elim
      cases f with
      | ret u =>
        obtain ⟨v, τ6, G6, J6, r6, q6⟩ := hf
        exact ⟨v, τ6, G6, J6.unsuite F.ok, r6, q6⟩
      | next =>
        obtain ⟨τ6, G6, J6, q6⟩ := hf
        exact ⟨τ6, G6, J6.unsuite F.ok, q6⟩
      | brk =>
        obtain ⟨τ6, G6, J6, q6⟩ := hf
        exact ⟨τ6, G6, J6.unsuite F.ok, q6⟩
      | cont =>
        obtain ⟨τ6, G6, J6, q6⟩ := hf
        exact ⟨τ6, G6, J6.unsuite F.ok, q6⟩
  | named hN hi hn hc hu r ih =>
    rintro g F ⟨y, e, yes, no⟩
    refine wpAny_handleBy_cons (codeAny_handlers_test (F.ask hc ((F.is e).here ?_))) (by intro q; cases q)
    cases y with
    | false => exact ih F (no rfl)
    | true =>
      refine codeAny_handlers_suite_as (F.again fun g2 F2 => ?_)
      obtain ⟨oz, vs, _, e2, e3, J⟩ := F2.sub
      refine store_ok (X := X.suite z ((z, oz) :: (X.pn ++ pins))) (v := .ref z) J hN hi (.inl hn) rfl (fun s5 J5 => ?_) (.inr hn)
      refine wpAny_mono ((hu z oz k d (X.pn ++ pins) e2 ⟨vs, e3⟩).run [] s5 _ G _ J5 (yes rfl z F.none)) (fun f s6 hf => ?_) fun _ _ q => q.elim
      cases f with
      | ret u =>
        obtain ⟨v, τ6, G6, J6, r6, q6⟩ := hf
        exact gone_ok (J6.unsuite F.ok) hN hi hn fun s7 J7 => ⟨v, _, G6, J7, r6, q6⟩
      | next =>
        obtain ⟨τ6, G6, J6, q6⟩ := hf
        exact gone_ok (J6.unsuite F.ok) hN hi hn fun s7 J7 => ⟨_, G6, J7, q6⟩
      | brk =>
        obtain ⟨τ6, G6, J6, q6⟩ := hf
        exact gone_ok (J6.unsuite F.ok) hN hi hn fun s7 J7 => ⟨_, G6, J7, q6⟩
      | cont =>
        obtain ⟨τ6, G6, J6, q6⟩ := hf
        exact gone_ok (J6.unsuite F.ok) hN hi hn fun s7 J7 => ⟨_, G6, J7, q6⟩
end
/-- an exception of the body comes to the clauses -/
def coming (X : Cx) (hds : List ExceptHandler) (pins : List (Addr × Obj)) (D : Ends) : Value → Shared → Prop := fun z t =>
  let M := model X.prog X.w
  wpAny M X.A (noteFrame z X.env) (fun _ t2 => wpAny M X.A (setFlight z Option.none) (fun _ t3 => wpAny M X.A (handleBy z X.env hds) (SP X pins D) X.xe t3) X.xe t2) X.xe t
section
variable {X : Cx} {body : List Stmt} {hd : ExceptHandler} {hds : List ExceptHandler} {l : List Cl} {pos : Pos} {tb : WX → TS} {W : WX}
theorem ps_try_mix (hs : X.stack = X.env :: X.outer) (hf : X.env.frame = some X.env.locals) (tk : Takes X W)
    (hb : ∀ (V : WX) (pn : List (Addr × Obj)) (xe : Value → Shared → Prop), Takes (X.tr pn xe) V → PassesOwn (model X.prog X.w) X.A X.env xe → PSs (X.tr pn xe) body (tb V))
    (hh : MixOk X (hd :: hds) l) : PS X (.Try body (hd :: hds) [] [] pos) (fun D σ H => tb (wMix X.K W D l) D σ H) := by
  refine ⟨fun pins s σ H D I h => wpAny_Try_except ?_⟩
  have hfr : X.A.frames = some (X.env :: X.outer) := hs ▸ I.ok.frames
  have T : Takes (X.tr (X.pn ++ pins) (coming X (hd :: hds) pins D)) (wMix X.K W D l) := fun u s2 xx => by
    obtain ⟨z, B, si, pins', τ, G, k, d, rfl, J', nb, up, sky, na, os, ag, w⟩ := xx
    refine Sky.land Zc.steady hfr hf (hs ▸ sky) fun g fl u2 => ?_
    exact Fallen.mix tk hs hh ⟨I.ok, hf, J'.ofTry I.ok, nb, os, ag, na, fl, up.trans u2⟩ w
  refine wpAny_mono ((hb _ _ _ T (by unfold coming; exact PassesOwn.looking)).run [] s σ H D (I.toTry _) h) (fun f s1 q => ?_) (fun e s1 he => he)
  cases f with
  | ret u =>
    obtain ⟨v, σ', H', J', r, q⟩ := q
    exact ⟨v, σ', H', J'.ofTry I.ok, r, q⟩
  | next =>
    obtain ⟨σ', H', J', q⟩ := q
    exact wpAny_execs_nil ⟨σ', H', J'.ofTry I.ok, q⟩
  | brk =>
    obtain ⟨σ', H', J', q⟩ := q
    exact ⟨σ', H', J'.ofTry I.ok, q⟩
  | cont =>
    obtain ⟨σ', H', J', q⟩ := q
    exact ⟨σ', H', J'.ofTry I.ok, q⟩
end
end Ld

set_option Elab.async false
set_option linter.all false
set_option maxRecDepth 100000
set_option maxHeartbeats 2000000
/-! Steps where a rule stands folded. -/
namespace Ld
open PySem PySem.Spec PyProof.Rows L2
variable {K : PySem.W.Frag} {H : Hp} {Q : VK} {p : Addr} {xs ys : List V} {v x y : V}
theorem len_t (h : SqT K H p xs) (q : Q (.int xs.length) H) : rLenU K [.ref p] H Q := .inl ⟨p, xs, rfl, .inr h, q⟩
theorem len_l (h : SqL K H p xs) (q : Q (.int xs.length) H) : rLenU K [.ref p] H Q := .inl ⟨p, xs, rfl, .inl h, q⟩
theorem len_s {z : Str} (h : z.length ≤ sizeLine) (q : Q (.int z.length) H) : rLenU K [.str z] H Q := .inr ⟨z, rfl, h, q⟩
theorem ix_t {i : Int} (h : SqT K H p xs) (e : atI xs i = some v) (q : Q v H) : rIxU K (.ref p) (.int i) H Q := .inl ⟨p, xs, i, v, rfl, rfl, .inr h, e, q⟩
theorem ix_l {i : Int} (h : SqL K H p xs) (e : atI xs i = some v) (q : Q v H) : rIxU K (.ref p) (.int i) H Q := .inl ⟨p, xs, i, v, rfl, rfl, .inl h, e, q⟩
theorem tup_l (h : SqL K H p xs) (q : ∀ l, H l = none → Q (.ref l) (upd H l (.tup xs))) : rTupU K [.ref p] H Q := ⟨p, xs, rfl, .inl ⟨h, q⟩⟩
theorem tup_t (h : SqT K H p xs) (q : Q (.ref p) H) : rTupU K [.ref p] H Q := ⟨p, xs, rfl, .inr ⟨h, q⟩⟩
theorem list_t (h : SqT K H p xs) (q : ∀ l, H l = none → Q (.ref l) (upd H l (.lst xs))) : rListU K [.ref p] H Q := ⟨p, xs, rfl, .inr h, q⟩
theorem list_l (h : SqL K H p xs) (q : ∀ l, H l = none → Q (.ref l) (upd H l (.lst xs))) : rListU K [.ref p] H Q := ⟨p, xs, rfl, .inl h, q⟩
theorem Same.put {H H' : Hp} {D : Addr} {o : HO} (k : Same H H') (n : H' D = none) : Same H (upd H' D o) := Same.trans k (Same.new (Same.refl _) n)
theorem dps_at : ∀ {vs : List V} {ds : List PyData} {i : Nat} {d : PyData}, DpAll K H vs ds → ds[i]? = some d → ∃ v, vs[i]? = some v ∧ Dp K H v d
  | _, _, i, d, .nil, h => by simp at h
  | _, _, 0, d, .cons h _, e => by
    simp at e
    subst e
    exact ⟨_, rfl, h⟩
  | _, _, i + 1, d, .cons _ t, e => by
    simp at e
    obtain ⟨v, h1, h2⟩ := dps_at t e
    exact ⟨v, by simpa using h1, h2⟩
/-- two tuples put together -/
theorem cat_dp {r1 r2 : List PyData} (h1 : Dp K H x (.tuple r1)) (h2 : Dp K H y (.tuple r2)) (l1 : r1.length ≤ 1000) (l2 : r2.length ≤ 1000) (q : ∀ v H', Same H H' → Dp K H' v (.tuple (r1 ++ r2)) → Q v H') : rAddU K x y H Q := by
  obtain ⟨a, xs, rfl, sx, dx⟩ := dp_tup h1
  obtain ⟨b, ys, rfl, sy, dy⟩ := dp_tup h2
  have e1 := dps_len dx
  have e2 := dps_len dy
  refine .inr (.inr ⟨a, b, xs, ys, rfl, rfl, sx, sy, by rw [sizeLine_eq]; omega, fun e => ?_, fun _ e => ?_, fun _ _ p n => ?_⟩)
  · subst e
    cases dx
    exact q _ _ (Same.refl H) h2
  · subst e
    cases dy
    exact q _ _ (Same.refl H) (by rw [List.append_nil]; exact h1)
  · have k : Same H (upd H p (.tup (xs ++ ys))) := Same.put (Same.refl H) n
    exact q _ _ k (.tup (.inl (.inl upd_same)) (dpsSame k (dps_append dx dy)))
/-- an item of a tuple by data -/
theorem ix_dp {r : List PyData} {i : Nat} {d : PyData} (h : Dp K H x (.tuple r)) (e : r[i]? = some d) (q : ∀ v, Dp K H v d → Q v H) : rIxU K x (.int (i : Nat)) H Q := by
  obtain ⟨a, xs, rfl, sx, dx⟩ := dp_tup h
  obtain ⟨v, hv, hd⟩ := dps_at dx e
  exact ix_t sx (atI_nat hv) (q v hd)
theorem len_dp {r : List PyData} (h : Dp K H x (.tuple r)) (q : Q (.int r.length) H) : rLenU K [x] H Q := by
  obtain ⟨a, xs, rfl, sx, dx⟩ := dp_tup h
  exact len_t sx (by rw [dps_len dx]; exact q)
theorem ixN_nat {n j : Nat} (h : j < n) : ixN n (j : Int) = some j := by
  unfold ixN
  rw [if_pos (by omega), if_pos (by omega)]
  simp
theorem dps_set : ∀ {vs : List V} {ds : List PyData} {v : V} {d : PyData} (i : Nat), DpAll K H vs ds → Dp K H v d → DpAll K H (vs.set i v) (ds.set i d)
  | _, _, _, _, _, .nil, _ => .nil
  | _, _, _, _, 0, .cons _ t, hd => .cons hd t
  | _, _, _, _, i + 1, .cons h t, hd => .cons h (dps_set i t hd)
theorem inV_ints (z : Int) (ws : List Int) : inV (.int z) (ws.map V.int) = decide (z ∈ ws) := by
  unfold inV
  rw [List.any_map]
  induction ws with
  | nil => rfl
  | cons y ys ih =>
    rw [List.any_cons, ih]
    have e : ((fun y => eqV y (V.int z)) ∘ V.int) y = decide (y = z) := by
      show (y == z) = decide (y = z)
      rfl
    rw [e]
    by_cases c : y = z
    · simp [c]
    · have c' : ¬ z = y := fun q => c q.symm
      simp [c, c']
theorem flat_ints (ws : List Int) : (ws.map V.int).all flatV = true := by
  rw [List.all_map]
  exact List.all_eq_true.mpr fun _ _ => rfl
/-- a comprehension over enumerate of a tuple, with a test -/
theorem lcEt {a : Addr} {ta : TA} {σ : L2.St} {g : TG} {tt : TT} {te : TE} {vs : List Nat} (ht : ∀ Q : List V → Hp → Prop, Q [.ref a] H → ta σ H Q) (hs : ∀ H', Same H H' → SqT K H' a xs) (few : xs.length < sizeLine) (F : Nat → List V) (h0 : F 0 = []) (fl : ∀ i, (F i).length ≤ i)
    (step : ∀ D acc i x H' T (N : Bool → V → Hp → Prop), xs[i]? = some x → H D = none → H' D = some (.lst acc) → acc = F i → Same H H' → H' T = some (.tup [.int (i : Nat), x]) →
      (∀ H4, Same H' H4 → F (i + 1) = F i → N false .non H4) → (∀ y H4, Same H' H4 → F (i + 1) = F i ++ [y] → N true y H4) →
      g (.ref T) (wipe σ vs) H' fun σ2 H2 => wipe σ2 vs = wipe σ vs ∧ tt σ2 H2 fun b H3 => if b = true then te σ2 H3 fun y H4 => N true y H4 else N false .non H3)
    (hd : ∀ D H', H D = none → Same H H' → H' D = some (.lst (F xs.length)) → Q (.ref D) H') :
    tLc (fun σ H R => iEnum K ta σ H R ∨ iEnumT K ta σ H R) g tt te vs σ H Q := by
  refine lcAny walkEt (fun R r => .inr (ht _ ⟨a, xs, rfl, hs H (Same.refl H), r⟩)) (fun D i H' => Same H H' ∧ H' D = some (.lst (F i))) (fun D nD => ⟨(Same.put (Same.refl H) nD), by rw [h0]; exact upd_same⟩) (fun D i H' _ q => hs H' q.1) ?_ ?_
  · rintro D nD i x H1 H' hi ⟨k1, e1⟩ y
    obtain ⟨T, u, v, rfl, n, rfl, e1', e2⟩ := y
    cases e1'
    have nT : T ≠ D := fun z => by rw [z, e1] at n; cases n
    have k2 : Same H1 (upd H1 T (.tup [.int (i : Nat), v])) := Same.put (Same.refl _) n
    have eD : upd H1 T (.tup [.int (i : Nat), v]) D = some (.lst (F i)) := by rw [upd_ne (Ne.symm nT)]; exact e1
    have l := fl i
    have := step D (F i) i v _ T (fun b y H4 => if b = true then (∃ acc, H4 D = some (.lst acc) ∧ acc.length < sizeLine ∧ (Same H (upd H4 D (.lst (acc ++ [y]))) ∧ upd H4 D (.lst (acc ++ [y])) D = some (.lst (F (i + 1))))) else (Same H H4 ∧ H4 D = some (.lst (F (i + 1))))) e2 nD eD rfl (k1.trans k2) upd_same ?_ ?_
    · exact this
    · intro H4 k4 e
      exact ⟨(k1.trans k2).trans k4, by rw [e]; exact k4 _ _ eD⟩
    · intro y H4 k4 e
      refine ⟨F i, k4 _ _ eD, by omega, fun b o q => ?_, by rw [e]; exact upd_same⟩
      rw [upd_ne (ne_of_none q nD)]
      exact k4 _ _ ((k1.trans k2) _ _ q)
  · rintro D nD H' ⟨k, e⟩
    exact hd D H' nD k e
end Ld

set_option Elab.async false
set_option linter.all false
set_option maxRecDepth 100000
set_option maxHeartbeats 2000000
/-! An own error class over another one over ValueError, whose __init__ calls super().__init__ with a text and keeps its one argument as index: made, raised, its field read. -/
namespace Ld
namespace LowIndex
open PySem PySem.W PySem.Calls PyProof.Rows PySem.HandSPX
/-! ### the text of __init__ -/
def tA (p1 p2 : Pos) : Arguments := { posonlyargs := [], args := [{ arg := "self", annotation := none, pos := p1 }, { arg := "index", annotation := none, pos := p2 }], vararg := none, kwonlyargs := [], kw_defaults := [], kwarg := none, defaults := [] }
def tB (txt : Str) (a1 a2 a3 a4 a5 a6 b1 b2 b3 b4 : Pos) : List Stmt := [.Expr (.Call (.Attribute (.Call (.Name "super" a1) [] [] a2) "__init__" a3) [.Constant (.str txt) 0 a4] [] a5) a6, .Assign [.Attribute (.Name "self" b1) "index" b2] (.Name "index" b3) b4]
def tS : Scope := { kind := .function, names := [(PySem.Str.ofString "self", .local), (PySem.Str.ofString "index", .local), (PySem.Str.ofString "__class__", .free), (PySem.Str.ofString "super", .globalImplicit)], isGenerator := false, isCoroutine := false, more := [] }
/-- super().__init__(txt) is a method's call, whatever stands around -/
def CallForm (txt : Str) (a1 a2 a3 a4 a5 : Pos) : Prop := ∀ env : Env, ∃ pl : Sem Bool, eval (.Call (.Attribute (.Call (.Name "super" a1) [] [] a2) "__init__" a3) [.Constant (.str txt) 0 a4] [] a5) env = (do
  let ov ← attributeBase (.Call (.Name "super" a1) [] [] a2) "__init__" env (eval (.Call (.Name "super" a1) [] [] a2) env)
  standAt a3.atName
  let (f, first) ← holding [ov] (getMethod ov "__init__" pl)
  callWith a5 f first (backTo a5 (starEach [.Constant (.str txt) 0 a4] env)) [])
/-- what the written part says of the class at C, and of its __init__, at fI -/
structure Txt (prog : Program) (K : Frag) (mg : Str → Option Value) (C fI : Addr) : Prop where
  cls : ∃ nm q N bs bm sn sub ab col dd k0 k1 k2 k3 k5, K.lookup C = some (excClassObj nm q C N bs bm true sn sub ab col dd k0 k1 k2 k3 k5 "ValueError.__new__") ∧ refsVE bm = true
  inI : excInitIn K C veTail "ValueError.__new__" = true
  sa : findIn K (.ref C) "__setattr__" = some (some (.builtin "object.__setattr__"))
  ga : findIn K (.ref C) "__getattribute__" = some (some (.builtin "BaseException.__getattribute__"))
  gg : findIn K (.ref C) "__getattr__" = some none
  noN : findIn K (.ref C) "index" = some none
  iC : findIn K (.ref C) "__init__" = some (some (.ref fI))
  tC : typeIn K (.ref fI) = some (.type "function")
  kC : keepIn K (.ref C) = true
  exC : subIn K (.ref C) (.type "BaseException") = some true
  exV : subIn K (.ref C) (.type "ValueError") = some true
  tyC : typeIn K (.ref C) = some (.type "type")
  hdC : hasDictIn K C = true
  mro : mroIn K C (.ref C) = some true
  sup : mg "super" = none
  above : ks_superIn K C C "__init__" = some (some (.builtin "ValueError.__init__"))
  opq : nsIn K cStatics "thirdparty.any" = some none
  htop : (prog.main.scope.names.lookup ("super" : Str)).isSome = false
  fn : ∃ (oc : Value) (od : Option Addr) (doc pm : Value) (an : Option Addr) (cda cc : Addr) (ct : Value) (osl : Array (Option Value)) (qual txt : Str) (p1 p2 a1 a2 a3 a4 a5 a6 b1 b2 b3 b4 : Pos) (ccl cl : Value) (cdd cld : Option Addr) (vs : Array Value) (ccs csl : Array (Option Value)) (file : Str) (tf : Tok),
    K.lookup fI = some ⟨oc, od, .func (ksFn "__init__" qual (tA p1 p2) (tB txt a1 a2 a3 a4 a5 a6 b1 b2 b3 b4) tS .none .none doc pm an (.ref cda) ct cc), osl⟩ ∧ codeIn K (.ref cda) qual = true ∧ K.lookup cda = some ⟨ccl, cdd, .fields vs, ccs⟩ ∧ vs[2]? = some (.str file tf) ∧
      ((prog.main.file : Str) == file) = true ∧ K.lookup cc = some ⟨cl, cld, .cell (some (.ref C)), csl⟩ ∧ CallForm txt a1 a2 a3 a4 a5
/-- what __init__ leaves of a fresh exception at x -/
structure InitEnd (h h' : Heap) (x C dx t1 : Addr) (v : Value) : Prop where
  keep : ∀ b o, b ≠ x → h.get? b = some o → h'.get? b = some o
  obj : h'.get? x = some { cls := .ref C, dict := some dx, data := .fields #[.ref t1, .none, .none, .none, .bool false, .none] }
  dbig : h.objs.size ≤ dx
  dne : dx ≠ x
  ns : h'.Ns1 dx (fun y => if y = "index" then some v else none)
section
variable {prog : Program} {w : World} {A : Around} {E : Value → Shared → Prop} {R : Result → Shared → Prop} {s : Shared} {K : Frag} {mg mb : Str → Option Value} {C fI : Addr}
theorem low_init (T : Txt prog K mg C fI) {x t0 : Addr} {v : Value} (X : K.In s.heap) (hg : s.heap.Ns mainGlobals mg) (hb : s.heap.Ns builtinsNs mb) (hbb : ∀ x : Str, x ≠ "__name__" → mb x = bootBuiltins x) (hlim : s.heap.NoLimit) (hx : s.heap.get? x = some (excO C t0)) (hnx : K.lookup x = none)
    (nx1 : x ≠ mainGlobals) (nx2 : x ≠ builtinsNs) (hroom : A.depth < recursionLimit)
    (hq : ∀ h' tk dx t1, InitEnd s.heap h' x C dx t1 v → R (.ok (.ret .none)) { s with heap := h', toks := tk }) :
    codeAny (model prog w) A (.call (.ref fI) ⟨[.ref x, v], []⟩) R s := by
  obtain ⟨oc, od, doc, pm, an, cda, cc, ct, osl, qual, txt, p1, p2, a1, a2, a3, a4, a5, a6, b1, b2, b3, b4, ccl, cl, cdd, cld, vs, ccs, csl, file, tf, ho, hcd, hcda, hvs, hfile, hcc, hform⟩ := T.fn
  obtain ⟨nm, q, N, bs, bm, sn, sub, ab, col, dd, k0, k1, k2, k3, k5, hC, hbm⟩ := T.cls
  have hcl : clsIn K C = some { name := nm, bases := bs, mro := .ref C :: bm, ns := N, qualname := q, hasDict := true, slotNames := sn, subclasses := sub, abstract := ab, collection := col, hasDel := false } := by unfold clsIn; rw [hC] <;> rfl
  refine ks_codeAny_call_defAt (fd := ksFn "__init__" qual (tA p1 p2) (tB txt a1 a2 a3 a4 a5 a6 b1 b2 b3 b4) tS .none .none doc pm an (.ref cda) ct cc) (body := tB txt a1 a2 a3 a4 a5 a6 b1 b2 b3 b4) (binds := [("self", .ref x), ("index", v)]) hroom (X _ _ ho) rfl hlim (codeRec_of X hcd) rfl (BindsTo.of_eq (by first | rfl | with_unfolding_all rfl)) (show ∀ y ∈ tS.names, y.2 ≠ .cell by decide) (fun y hy => by
    rcases List.mem_cons.mp hy with rfl | hy
    · rfl
    · rw [List.mem_singleton.mp hy]
      rfl) (fun h₁ hns kp => ?_)
  have hL : s.heap.objs.size < h₁.objs.size := hns.lt
  have hxL : x ≠ s.heap.objs.size := Nat.ne_of_lt (Heap.lt_size hx)
  have X1 : K.In h₁ := X.keeps kp
  have hx1 := kp _ _ hx
  have I1 : InstAt h₁ x (excO C t0) C none := ⟨hx1, rfl, rfl, trivial⟩
  show _root_.PySem.wpAt (model prog w) _ (.func _ (ksEnv qual tS s.heap.objs.size fI (.ref cda) cc)) (execs (tB txt a1 a2 a3 a4 a5 a6 b1 b2 b3 b4) (ksEnv qual tS s.heap.objs.size fI (.ref cda) cc)) _ _ _
  have ms : (fun y => List.lookup y [(PySem.Str.ofString "self", Value.ref x), (PySem.Str.ofString "index", v)].reverse) "self" = some (.ref x) := by rfl
  have mf : (fun y => List.lookup y [(PySem.Str.ofString "self", Value.ref x), (PySem.Str.ofString "index", v)].reverse) "index" = some v := by rfl
  obtain ⟨oD, hD1, hD2⟩ : ∃ oD, h₁.get? C = some oD ∧ oD.data = .cls { name := nm, bases := bs, mro := .ref C :: bm, ns := N, qualname := q, hasDict := true, slotNames := sn, subclasses := sub, abstract := ab, collection := col, hasDel := false } := ⟨_, X1 _ _ hC, rfl⟩
  -- super().__init__(txt)
  obtain ⟨pl, he⟩ := hform (ksEnv qual tS s.heap.objs.size fI (.ref cda) cc)
  refine ks_wpAt_execs_cons (ks_wpAt_Expr_any (ks_wpAt_MethodCall (pl := pl) ?_ he))
  refine ks_wpAt_super_base (env := ksEnv qual tS s.heap.objs.size fI (.ref cda) cc) rfl rfl rfl rfl (X1 _ _ ho) rfl (ar := { arg := "self", annotation := none, pos := p1 }) rfl rfl (X1 _ _ hcda) rfl hvs hfile T.htop ?_
  refine ks_loadName_global rfl rfl (loadGlobal_builtin (env := ksEnv qual tS s.heap.objs.size fI (.ref cda) cc) (hg.keeps kp) T.sup (hb.keeps kp) ((hbb _ (by decide)).trans (by decide +kernel)) ⟨rfl, ?_⟩)
  refine wpAny_loadName_free rfl rfl rfl ⟨_, X1 _ _ hcc, rfl⟩ ?_
  refine wpAny_loadName_local rfl rfl hns ms ?_
  refine ks_wpAny_isType_cls hD1 hD2 ⟨rfl, ?_⟩
  refine ks_wpAny_call_super hD1 hD2 hx1 rfl (fun c e => by cases e) (looks_mroIn X1 T.mro) (fun h2 e2 k2 => ?_)
  have X2 : K.In h2 := X1.keeps k2
  have I2 : InstAt h2 x (excO C t0) C none := ⟨k2 _ _ hx1, rfl, rfl, trivial⟩
  have ab := T.above
  unfold ks_superIn at ab
  rw [hcl, Option.bind_some] at ab
  refine kxs_getMethod kxs_ValueError e2 (looks_opaque X2 T.opq) (l₀ := .ref C :: bm) ((looks_clsIn X2 hcl).andThen .now) rfl X2 ab (I2.type.andThen (looks_subIn X2 T.exV)) (ks_ne X2 I2 hcl) (by decide) ?_
  show wpAny _ _ (callWith a5 (.ref h2.objs.size) [] (backTo a5 (starEach [.Constant (.str txt) 0 a4] (ksEnv qual tS s.heap.objs.size fI (.ref cda) cc))) []) _ _ _
  have hu : (h2.push (kxs_mw "ValueError.__init__" x)).get? h2.objs.size = some (kxs_mw "ValueError.__init__" x) := Heap.get?_push_size _ rfl
  have k3 : ∀ b o, h₁.get? b = some o → (h2.push (kxs_mw "ValueError.__init__" x)).get? b = some o := fun b o e => Heap.get?_push_of_some _ (k2 b o e)
  refine kxs_callWith (i := "ValueError.__init__") (x := x) rfl ?_
  show wpAny _ _ (evalArgs _ true ((false, eval (.Constant (.str txt) 0 a4) (ksEnv qual tS s.heap.objs.size fI (.ref cda) cc)) :: []) []) _ _ _
  refine evalArgs_plain (spliced_cons (Constant_str (spliced_nil ⟨hu, ?_⟩)))
  show wpAny _ _ (call (.ref h2.objs.size) [.str txt _]) _ _ _
  -- the ground: the heap ahead of the call, but for the exception itself
  have g1 : ∀ b o, b ≠ x → s.heap.get? b = some o → (hideAll s.heap [x]).get? b = some o := fun b o nb e => hideAll_get _ e (by simpa using nb)
  have gx : (hideAll s.heap [x]).get? x = none := hideAll_none _ (by simp)
  have XG : K.In (hideAll s.heap [x]) := fun a o e => g1 a o (fun z => by rw [z, hnx] at e; cases e) (X a o e)
  have F3 : Fr (hideAll s.heap [x]) s.heap.objs.size (h2.push (kxs_mw "ValueError.__init__" x)) (fun y => List.lookup y [(PySem.Str.ofString "self", Value.ref x), (PySem.Str.ofString "index", v)].reverse) :=
    ⟨hns.keeps k3, fun b o e => k3 b o (kp b o (of_hideAll _ e)), Nat.le_of_eq (hideAll_size _ _)⟩
  have nu : h2.objs.size ≠ x := Nat.ne_of_gt (Heap.lt_size (k2 _ _ hx1))
  have big : s.heap.objs.size < h2.objs.size := by
    obtain ⟨o, _, _, e, _⟩ := hns
    exact Heap.lt_size (k2 _ _ e)
  have N3 : News (hideAll s.heap [x]) s.heap.objs.size (h2.push (kxs_mw "ValueError.__init__" x)) [(h2.objs.size, kxs_mw "ValueError.__init__" x), (x, excObj C t0 none .none)] := fun p hp => by
    rcases List.mem_cons.mp hp with rfl | hp
    · refine ⟨hu, Nat.ne_of_gt big, ?_⟩
      exact Heap.get?_none_of_le (by rw [hideAll_size]; exact Nat.le_of_lt big)
    · rw [List.mem_singleton.mp hp]
      exact ⟨k3 _ _ hx1, hxL, gx⟩
  refine kxs_call (x := x) (t := t0) (dv := none) (c2 := .none) (nw := fun o' => [(h2.objs.size, kxs_mw "ValueError.__init__" x), (x, o')]) F3 XG N3 F.excBase_ValueError T.inI (by simp) (.tail nu (.head fun _ z => nomatch z)) (by show 1 ≤ sizeLine; decide) fun t1 h4 F4 N4 _ => ?_
  have hx4 : h4.get? x = some (excObj C t1 none .none) := (N4 (x, excObj C t1 none .none) (by simp)).1
  have X4 : K.In h4 := fun a o e => F4.keep a o (XG a o e)
  have z4 : s.heap.objs.size < h4.objs.size := F4.ns.lt
  show _root_.PySem.wpAt _ _ _ (execs (.Assign [.Attribute (.Name "self" b1) "index" b2] (.Name "index" b3) b4 :: []) (ksEnv qual tS s.heap.objs.size fI (.ref cda) cc)) _ _ _
  refine wpAt_of_wpAny (wpAny_execs_cons (plainObj_wpAny_Assign_Attribute ?_))
  refine wpAny_Name (wpAny_loadName_local rfl rfl F4.ns mf ?_) (by decide)
  refine wpAny_Name (wpAny_loadName_local rfl rfl F4.ns ms ?_) (by decide)
  refine set_plain X4 (ox := excObj C t1 none .none) (od := none) ⟨hx4, rfl, rfl, trivial⟩ T.sa ?_
  refine exc_osa X4 hx4 hcl (show refsVE (.ref C :: bm) = true from hbm) rfl T.noN (fun h5 tk5 dx kk dn dne hx5 hn5 => ?_)
  exact wpAny_execs_nil (hq h5 tk5 dx t1 ⟨fun b o nb e => kk b o nb (F4.keep b o (g1 b o nb e)), hx5, Nat.le_of_lt (Nat.lt_of_lt_of_le z4 dn), dne, hn5⟩)
/-- a made one -/
structure OwnMade (h h' : Heap) (e C d : Addr) (v : Value) : Prop where
  keep : ∀ b o, h.get? b = some o → h'.get? b = some o
  new : h.objs.size ≤ e
  obj : ∃ oe vs, h'.get? e = some oe ∧ oe.cls = .ref C ∧ oe.dict = some d ∧ oe.data = .fields vs ∧ vs[1]? = some .none
  dbig : h.objs.size ≤ d
  dne : d ≠ e
  ns : h'.Ns1 d (fun y => if y = "index" then some v else none)
theorem low_made (T : Txt prog K mg C fI) {v : Value} (X : K.In s.heap) (hg : s.heap.Ns mainGlobals mg) (hb : s.heap.Ns builtinsNs mb) (hbb : ∀ x : Str, x ≠ "__name__" → mb x = bootBuiltins x) (hlim : s.heap.NoLimit) (hroom : A.depth + 1 < recursionLimit)
    (hq : ∀ h' tk e d, OwnMade s.heap h' e C d v → R (.ok (.ret (.ref e))) { s with heap := h', toks := tk }) :
    codeAny (model prog w) A (.call (.ref C) ⟨[v], []⟩) R s := by
  obtain ⟨nm, q, N, bs, bm, sn, sub, ab, col, dd, k0, k1, k2, k3, k5, hC, hbm⟩ := T.cls
  obtain ⟨hp, g, dr, tk, os⟩ := s
  have k : ∀ b o, hp.get? b = some o → ((hp.push (kdv_tup [v])).push (excO C hp.objs.size)).get? b = some o := fun b o e => Heap.get?_push_of_some _ (Heap.get?_push_of_some _ e)
  have hget : ((hp.push (kdv_tup [v])).push (excO C hp.objs.size)).get? (hp.objs.size + 1) = some (excO C hp.objs.size) := by heap_get
  have hnx : K.lookup (hp.objs.size + 1) = none := by
    cases e : K.lookup (hp.objs.size + 1) with
    | none => rfl
    | some o =>
      have z : hp.get? (hp.objs.size + 1) = some o := X _ _ e
      exact absurd (Nat.lt_of_succ_lt (Heap.lt_size z)) (Nat.lt_irrefl _)
  have zg : mainGlobals < hp.objs.size := Heap.Ns.lt hg
  have zb : builtinsNs < hp.objs.size := Heap.Ns.lt hb
  have n1 : hp.objs.size + 1 ≠ mainGlobals := fun e => absurd (Nat.lt_succ_of_lt zg) (by rw [← e]; exact Nat.lt_irrefl _)
  have n2 : hp.objs.size + 1 ≠ builtinsNs := fun e => absurd (Nat.lt_succ_of_lt zb) (by rw [← e]; exact Nat.lt_irrefl _)
  refine call_own F.excBase_ValueError (fun X => refsVE_contains X bm hbm) (X _ _ hC) (looks_findIn X T.iC) (fun self => bind_fn X self T.tC) (by show 1 ≤ sizeLine; rw [sizeLine_eq]; omega) ?_
  refine low_init (mb := mb) (s := ⟨(hp.push (kdv_tup [v])).push (excO C hp.objs.size), g, dr, tk, os⟩) T (X.keeps k) (hg.keeps k) (hb.keeps k) hbb (hlim.keeps k) hget hnx n1 n2 ?_ fun h' tk' dx t1 ⟨k', hx, dn, dne, hns⟩ => ?_
  · show A.depth + 1 < recursionLimit
    exact hroom
  · have old : ∀ b o, hp.get? b = some o → h'.get? b = some o := fun b o e => k' b o (Nat.ne_of_lt (Nat.lt_succ_of_lt (Heap.lt_size e))) (k b o e)
    have z : hp.objs.size + 1 + 1 ≤ dx := by
      first
        | (simpa only [Heap.size_push] using dn)
        | exact dn
        | (have q := dn; rw [Heap.size_push, Heap.size_push] at q; exact q)
    exact ⟨rfl, hq h' tk' (hp.objs.size + 1) dx ⟨old, Nat.le_succ _, ⟨_, _, hx, rfl, rfl, rfl, rfl⟩, Nat.le_trans (Nat.le_trans (Nat.le_succ _) (Nat.le_succ _)) z, dne, hns⟩⟩
end
end LowIndex
namespace LowIndex
open PySem PySem.Spec PyProof.Rows L2
section
variable {X : Cx} {C fI : Addr} {W : WX}
theorem pmk {a : Expr} {ta : TA} {nm : Str} {p pos : Pos} {k : Nat} (T : Txt X.prog X.K X.mg C fI) (gC : X.mg nm = some (.ref C)) (hr : Room k X.A) (ha : PA X [a] ta) (hg : Gl X nm := by rfl) (hdb : (nm == ("__debug__" : Str)) = false := by decide)
    (he : starEach (a :: []) X.env = (false, eval a X.env) :: starEach [] X.env := by rfl) (hpl : (backTo pos (starEach [] X.env)).any (·.1) = false := by rfl) :
    PMk X (.Call (.Name nm p) [a] [] pos) (tMkF C "index" ta) := by
  intro pins s σ H Q I h
  refine wpAny_Call_Name_kw (ld_glob I hg gC ?_ hdb)
  refine PySem.W.callWith_K (h₀ := X.base) I.ok.mod.kin T.kC (thn (ha.run pos pins s σ H _ I h) fun us s1 hh => ?_) he hpl
  obtain ⟨vs, H1, I1, r1, v, ev, q1⟩ := hh
  subst ev
  refine ⟨I1.kIn, ?_⟩
  cases r1 with
  | cons rv rn =>
    rename_i v' us'
    cases rn
    show wpAny _ _ (call (.ref C) [v']) _ _ _
    have hlim := I1.nolimit
    have hgl := I1.mod.glob.keeps I1.bk
    obtain ⟨mb, hb0, hbb⟩ := I1.mod.blt
    have hbl := hb0.keeps I1.bk
    obtain ⟨hp, g, dr, tk, os⟩ := s1
    refine wpAny_call (low_made (mb := mb) T I1.kIn hgl hbl hbb hlim (by have := hr.dp; omega) fun h' tk' e d M => ?_)
    show MkP X pins σ Q (.ref e) ⟨h', g, dr, tk', os⟩
    obtain ⟨oe, fv, hoe, hc, hd, hdat, h1⟩ := M.obj
    have hns := M.ns
    obtain ⟨G', g1, g2⟩ := restrict h' fun b => decide (b ≠ e)
    have gk : ∀ b, b ≠ e → G'.get? b = h'.get? b := fun b hb => g1 b (decide_eq_true hb)
    have ge : G'.get? e = none := g2 e (by simp)
    have old : ∀ b o, hp.get? b = some o → G'.get? b = some o := fun b o q => (gk b (Nat.ne_of_lt (Nat.lt_of_lt_of_le (Heap.lt_size q) M.new))).trans (M.keep b o q)
    have ob : ObjOk X.prog X.w (upd H1 d (.xd [(("index" : Str), v)])) G' d (.xd [(("index" : Str), v)]) :=
      ⟨_, hns.at (fun o q => (gk d M.dne).trans q), fun f => relO_one rv f⟩
    have J : Inv X pins σ (upd H1 d (.xd [(("index" : Str), v)])) ⟨G', g, dr, tk', os⟩ := I1.laid (t' := tk') old M.dbig ob
    refine ⟨e, oe, fv, ⟨G', g, dr, tk', os⟩, _, .ref C, some d, rfl, J, fun b o q => ?_, ge, hoe, ⟨hc, hd⟩, hdat, h1, ?_, rfl, I1.bare, raises_own T.exC T.tyC, q1 d (I1.hok.fresh M.dbig)⟩
    · by_cases hb : b = e
      · have q' : G'.get? b = some o := q
        rw [hb, ge] at q'; cases q'
      · exact (gk b hb).symm.trans q
    · rw [upd_ne (Ne.symm M.dne)]
      exact I1.hok.fresh M.new
theorem ps_raise {a : Expr} {ta : TA} {nm : Str} {p pos pos2 : Pos} {k : Nat} (hc : X.calm = true) (T : Txt X.prog X.K X.mg C fI) (gC : X.mg nm = some (.ref C)) (hr : Room k X.A) (tk : Takes X W) (ha : PA X [a] ta) (hg : Gl X nm := by rfl) (hdb : (nm == ("__debug__" : Str)) = false := by decide)
    (he : starEach (a :: []) X.env = (false, eval a X.env) :: starEach [] X.env := by rfl) (hpl : (backTo pos (starEach [] X.env)).any (·.1) = false := by rfl) :
    PS X (.Raise (some (.Call (.Name nm p) [a] [] pos)) none pos2) (tRaiseF C "index" W ta) := L2.ps_raise hc tk (pmk T gC hr ha hg hdb he hpl)
end
end LowIndex
end Ld

set_option Elab.async false
set_option linter.all false
set_option maxRecDepth 100000
set_option maxHeartbeats 2000000
/-! An own error class over another one over ValueError, whose __init__ calls super().__init__ with a text and keeps its one argument as name: made, raised, its field read. -/
namespace Ld
namespace LowName
open PySem PySem.W PySem.Calls PyProof.Rows PySem.HandSPX
/-! ### the text of __init__ -/
def tA (p1 p2 : Pos) : Arguments := { posonlyargs := [], args := [{ arg := "self", annotation := none, pos := p1 }, { arg := "name", annotation := none, pos := p2 }], vararg := none, kwonlyargs := [], kw_defaults := [], kwarg := none, defaults := [] }
def tB (txt : Str) (a1 a2 a3 a4 a5 a6 b1 b2 b3 b4 : Pos) : List Stmt := [.Expr (.Call (.Attribute (.Call (.Name "super" a1) [] [] a2) "__init__" a3) [.Constant (.str txt) 0 a4] [] a5) a6, .Assign [.Attribute (.Name "self" b1) "name" b2] (.Name "name" b3) b4]
def tS : Scope := { kind := .function, names := [(PySem.Str.ofString "self", .local), (PySem.Str.ofString "name", .local), (PySem.Str.ofString "__class__", .free), (PySem.Str.ofString "super", .globalImplicit)], isGenerator := false, isCoroutine := false, more := [] }
/-- super().__init__(txt) is a method's call, whatever stands around -/
def CallForm (txt : Str) (a1 a2 a3 a4 a5 : Pos) : Prop := ∀ env : Env, ∃ pl : Sem Bool, eval (.Call (.Attribute (.Call (.Name "super" a1) [] [] a2) "__init__" a3) [.Constant (.str txt) 0 a4] [] a5) env = (do
  let ov ← attributeBase (.Call (.Name "super" a1) [] [] a2) "__init__" env (eval (.Call (.Name "super" a1) [] [] a2) env)
  standAt a3.atName
  let (f, first) ← holding [ov] (getMethod ov "__init__" pl)
  callWith a5 f first (backTo a5 (starEach [.Constant (.str txt) 0 a4] env)) [])
/-- what the written part says of the class at C, and of its __init__, at fI -/
structure Txt (prog : Program) (K : Frag) (mg : Str → Option Value) (C fI : Addr) : Prop where
  cls : ∃ nm q N bs bm sn sub ab col dd k0 k1 k2 k3 k5, K.lookup C = some (excClassObj nm q C N bs bm true sn sub ab col dd k0 k1 k2 k3 k5 "ValueError.__new__") ∧ refsVE bm = true
  inI : excInitIn K C veTail "ValueError.__new__" = true
  sa : findIn K (.ref C) "__setattr__" = some (some (.builtin "object.__setattr__"))
  ga : findIn K (.ref C) "__getattribute__" = some (some (.builtin "BaseException.__getattribute__"))
  gg : findIn K (.ref C) "__getattr__" = some none
  noN : findIn K (.ref C) "name" = some none
  iC : findIn K (.ref C) "__init__" = some (some (.ref fI))
  tC : typeIn K (.ref fI) = some (.type "function")
  kC : keepIn K (.ref C) = true
  exC : subIn K (.ref C) (.type "BaseException") = some true
  exV : subIn K (.ref C) (.type "ValueError") = some true
  tyC : typeIn K (.ref C) = some (.type "type")
  hdC : hasDictIn K C = true
  mro : mroIn K C (.ref C) = some true
  sup : mg "super" = none
  above : ks_superIn K C C "__init__" = some (some (.builtin "ValueError.__init__"))
  opq : nsIn K cStatics "thirdparty.any" = some none
  htop : (prog.main.scope.names.lookup ("super" : Str)).isSome = false
  fn : ∃ (oc : Value) (od : Option Addr) (doc pm : Value) (an : Option Addr) (cda cc : Addr) (ct : Value) (osl : Array (Option Value)) (qual txt : Str) (p1 p2 a1 a2 a3 a4 a5 a6 b1 b2 b3 b4 : Pos) (ccl cl : Value) (cdd cld : Option Addr) (vs : Array Value) (ccs csl : Array (Option Value)) (file : Str) (tf : Tok),
    K.lookup fI = some ⟨oc, od, .func (ksFn "__init__" qual (tA p1 p2) (tB txt a1 a2 a3 a4 a5 a6 b1 b2 b3 b4) tS .none .none doc pm an (.ref cda) ct cc), osl⟩ ∧ codeIn K (.ref cda) qual = true ∧ K.lookup cda = some ⟨ccl, cdd, .fields vs, ccs⟩ ∧ vs[2]? = some (.str file tf) ∧
      ((prog.main.file : Str) == file) = true ∧ K.lookup cc = some ⟨cl, cld, .cell (some (.ref C)), csl⟩ ∧ CallForm txt a1 a2 a3 a4 a5
/-- what __init__ leaves of a fresh exception at x -/
structure InitEnd (h h' : Heap) (x C dx t1 : Addr) (v : Value) : Prop where
  keep : ∀ b o, b ≠ x → h.get? b = some o → h'.get? b = some o
  obj : h'.get? x = some { cls := .ref C, dict := some dx, data := .fields #[.ref t1, .none, .none, .none, .bool false, .none] }
  dbig : h.objs.size ≤ dx
  dne : dx ≠ x
  ns : h'.Ns1 dx (fun y => if y = "name" then some v else none)
section
variable {prog : Program} {w : World} {A : Around} {E : Value → Shared → Prop} {R : Result → Shared → Prop} {s : Shared} {K : Frag} {mg mb : Str → Option Value} {C fI : Addr}
theorem low_init (T : Txt prog K mg C fI) {x t0 : Addr} {v : Value} (X : K.In s.heap) (hg : s.heap.Ns mainGlobals mg) (hb : s.heap.Ns builtinsNs mb) (hbb : ∀ x : Str, x ≠ "__name__" → mb x = bootBuiltins x) (hlim : s.heap.NoLimit) (hx : s.heap.get? x = some (excO C t0)) (hnx : K.lookup x = none)
    (nx1 : x ≠ mainGlobals) (nx2 : x ≠ builtinsNs) (hroom : A.depth < recursionLimit)
    (hq : ∀ h' tk dx t1, InitEnd s.heap h' x C dx t1 v → R (.ok (.ret .none)) { s with heap := h', toks := tk }) :
    codeAny (model prog w) A (.call (.ref fI) ⟨[.ref x, v], []⟩) R s := by
  obtain ⟨oc, od, doc, pm, an, cda, cc, ct, osl, qual, txt, p1, p2, a1, a2, a3, a4, a5, a6, b1, b2, b3, b4, ccl, cl, cdd, cld, vs, ccs, csl, file, tf, ho, hcd, hcda, hvs, hfile, hcc, hform⟩ := T.fn
  obtain ⟨nm, q, N, bs, bm, sn, sub, ab, col, dd, k0, k1, k2, k3, k5, hC, hbm⟩ := T.cls
  have hcl : clsIn K C = some { name := nm, bases := bs, mro := .ref C :: bm, ns := N, qualname := q, hasDict := true, slotNames := sn, subclasses := sub, abstract := ab, collection := col, hasDel := false } := by unfold clsIn; rw [hC] <;> rfl
  refine ks_codeAny_call_defAt (fd := ksFn "__init__" qual (tA p1 p2) (tB txt a1 a2 a3 a4 a5 a6 b1 b2 b3 b4) tS .none .none doc pm an (.ref cda) ct cc) (body := tB txt a1 a2 a3 a4 a5 a6 b1 b2 b3 b4) (binds := [("self", .ref x), ("name", v)]) hroom (X _ _ ho) rfl hlim (codeRec_of X hcd) rfl (BindsTo.of_eq (by first | rfl | with_unfolding_all rfl)) (show ∀ y ∈ tS.names, y.2 ≠ .cell by decide) (fun y hy => by
    rcases List.mem_cons.mp hy with rfl | hy
    · rfl
    · rw [List.mem_singleton.mp hy]
      rfl) (fun h₁ hns kp => ?_)
  have hL : s.heap.objs.size < h₁.objs.size := hns.lt
  have hxL : x ≠ s.heap.objs.size := Nat.ne_of_lt (Heap.lt_size hx)
  have X1 : K.In h₁ := X.keeps kp
  have hx1 := kp _ _ hx
  have I1 : InstAt h₁ x (excO C t0) C none := ⟨hx1, rfl, rfl, trivial⟩
  show _root_.PySem.wpAt (model prog w) _ (.func _ (ksEnv qual tS s.heap.objs.size fI (.ref cda) cc)) (execs (tB txt a1 a2 a3 a4 a5 a6 b1 b2 b3 b4) (ksEnv qual tS s.heap.objs.size fI (.ref cda) cc)) _ _ _
  have ms : (fun y => List.lookup y [(PySem.Str.ofString "self", Value.ref x), (PySem.Str.ofString "name", v)].reverse) "self" = some (.ref x) := by rfl
  have mf : (fun y => List.lookup y [(PySem.Str.ofString "self", Value.ref x), (PySem.Str.ofString "name", v)].reverse) "name" = some v := by rfl
  obtain ⟨oD, hD1, hD2⟩ : ∃ oD, h₁.get? C = some oD ∧ oD.data = .cls { name := nm, bases := bs, mro := .ref C :: bm, ns := N, qualname := q, hasDict := true, slotNames := sn, subclasses := sub, abstract := ab, collection := col, hasDel := false } := ⟨_, X1 _ _ hC, rfl⟩
  -- super().__init__(txt)
  obtain ⟨pl, he⟩ := hform (ksEnv qual tS s.heap.objs.size fI (.ref cda) cc)
  refine ks_wpAt_execs_cons (ks_wpAt_Expr_any (ks_wpAt_MethodCall (pl := pl) ?_ he))
  refine ks_wpAt_super_base (env := ksEnv qual tS s.heap.objs.size fI (.ref cda) cc) rfl rfl rfl rfl (X1 _ _ ho) rfl (ar := { arg := "self", annotation := none, pos := p1 }) rfl rfl (X1 _ _ hcda) rfl hvs hfile T.htop ?_
  refine ks_loadName_global rfl rfl (loadGlobal_builtin (env := ksEnv qual tS s.heap.objs.size fI (.ref cda) cc) (hg.keeps kp) T.sup (hb.keeps kp) ((hbb _ (by decide)).trans (by decide +kernel)) ⟨rfl, ?_⟩)
  refine wpAny_loadName_free rfl rfl rfl ⟨_, X1 _ _ hcc, rfl⟩ ?_
  refine wpAny_loadName_local rfl rfl hns ms ?_
  refine ks_wpAny_isType_cls hD1 hD2 ⟨rfl, ?_⟩
  refine ks_wpAny_call_super hD1 hD2 hx1 rfl (fun c e => by cases e) (looks_mroIn X1 T.mro) (fun h2 e2 k2 => ?_)
  have X2 : K.In h2 := X1.keeps k2
  have I2 : InstAt h2 x (excO C t0) C none := ⟨k2 _ _ hx1, rfl, rfl, trivial⟩
  have ab := T.above
  unfold ks_superIn at ab
  rw [hcl, Option.bind_some] at ab
  refine kxs_getMethod kxs_ValueError e2 (looks_opaque X2 T.opq) (l₀ := .ref C :: bm) ((looks_clsIn X2 hcl).andThen .now) rfl X2 ab (I2.type.andThen (looks_subIn X2 T.exV)) (ks_ne X2 I2 hcl) (by decide) ?_
  show wpAny _ _ (callWith a5 (.ref h2.objs.size) [] (backTo a5 (starEach [.Constant (.str txt) 0 a4] (ksEnv qual tS s.heap.objs.size fI (.ref cda) cc))) []) _ _ _
  have hu : (h2.push (kxs_mw "ValueError.__init__" x)).get? h2.objs.size = some (kxs_mw "ValueError.__init__" x) := Heap.get?_push_size _ rfl
  have k3 : ∀ b o, h₁.get? b = some o → (h2.push (kxs_mw "ValueError.__init__" x)).get? b = some o := fun b o e => Heap.get?_push_of_some _ (k2 b o e)
  refine kxs_callWith (i := "ValueError.__init__") (x := x) rfl ?_
  show wpAny _ _ (evalArgs _ true ((false, eval (.Constant (.str txt) 0 a4) (ksEnv qual tS s.heap.objs.size fI (.ref cda) cc)) :: []) []) _ _ _
  refine evalArgs_plain (spliced_cons (Constant_str (spliced_nil ⟨hu, ?_⟩)))
  show wpAny _ _ (call (.ref h2.objs.size) [.str txt _]) _ _ _
  -- the ground: the heap ahead of the call, but for the exception itself
  have g1 : ∀ b o, b ≠ x → s.heap.get? b = some o → (hideAll s.heap [x]).get? b = some o := fun b o nb e => hideAll_get _ e (by simpa using nb)
  have gx : (hideAll s.heap [x]).get? x = none := hideAll_none _ (by simp)
  have XG : K.In (hideAll s.heap [x]) := fun a o e => g1 a o (fun z => by rw [z, hnx] at e; cases e) (X a o e)
  have F3 : Fr (hideAll s.heap [x]) s.heap.objs.size (h2.push (kxs_mw "ValueError.__init__" x)) (fun y => List.lookup y [(PySem.Str.ofString "self", Value.ref x), (PySem.Str.ofString "name", v)].reverse) :=
    ⟨hns.keeps k3, fun b o e => k3 b o (kp b o (of_hideAll _ e)), Nat.le_of_eq (hideAll_size _ _)⟩
  have nu : h2.objs.size ≠ x := Nat.ne_of_gt (Heap.lt_size (k2 _ _ hx1))
  have big : s.heap.objs.size < h2.objs.size := by
    obtain ⟨o, _, _, e, _⟩ := hns
    exact Heap.lt_size (k2 _ _ e)
  have N3 : News (hideAll s.heap [x]) s.heap.objs.size (h2.push (kxs_mw "ValueError.__init__" x)) [(h2.objs.size, kxs_mw "ValueError.__init__" x), (x, excObj C t0 none .none)] := fun p hp => by
    rcases List.mem_cons.mp hp with rfl | hp
    · refine ⟨hu, Nat.ne_of_gt big, ?_⟩
      exact Heap.get?_none_of_le (by rw [hideAll_size]; exact Nat.le_of_lt big)
    · rw [List.mem_singleton.mp hp]
      exact ⟨k3 _ _ hx1, hxL, gx⟩
  refine kxs_call (x := x) (t := t0) (dv := none) (c2 := .none) (nw := fun o' => [(h2.objs.size, kxs_mw "ValueError.__init__" x), (x, o')]) F3 XG N3 F.excBase_ValueError T.inI (by simp) (.tail nu (.head fun _ z => nomatch z)) (by show 1 ≤ sizeLine; decide) fun t1 h4 F4 N4 _ => ?_
  have hx4 : h4.get? x = some (excObj C t1 none .none) := (N4 (x, excObj C t1 none .none) (by simp)).1
  have X4 : K.In h4 := fun a o e => F4.keep a o (XG a o e)
  have z4 : s.heap.objs.size < h4.objs.size := F4.ns.lt
  show _root_.PySem.wpAt _ _ _ (execs (.Assign [.Attribute (.Name "self" b1) "name" b2] (.Name "name" b3) b4 :: []) (ksEnv qual tS s.heap.objs.size fI (.ref cda) cc)) _ _ _
  refine wpAt_of_wpAny (wpAny_execs_cons (plainObj_wpAny_Assign_Attribute ?_))
  refine wpAny_Name (wpAny_loadName_local rfl rfl F4.ns mf ?_) (by decide)
  refine wpAny_Name (wpAny_loadName_local rfl rfl F4.ns ms ?_) (by decide)
  refine set_plain X4 (ox := excObj C t1 none .none) (od := none) ⟨hx4, rfl, rfl, trivial⟩ T.sa ?_
  refine exc_osa X4 hx4 hcl (show refsVE (.ref C :: bm) = true from hbm) rfl T.noN (fun h5 tk5 dx kk dn dne hx5 hn5 => ?_)
  exact wpAny_execs_nil (hq h5 tk5 dx t1 ⟨fun b o nb e => kk b o nb (F4.keep b o (g1 b o nb e)), hx5, Nat.le_of_lt (Nat.lt_of_lt_of_le z4 dn), dne, hn5⟩)
/-- a made one -/
structure OwnMade (h h' : Heap) (e C d : Addr) (v : Value) : Prop where
  keep : ∀ b o, h.get? b = some o → h'.get? b = some o
  new : h.objs.size ≤ e
  obj : ∃ oe vs, h'.get? e = some oe ∧ oe.cls = .ref C ∧ oe.dict = some d ∧ oe.data = .fields vs ∧ vs[1]? = some .none
  dbig : h.objs.size ≤ d
  dne : d ≠ e
  ns : h'.Ns1 d (fun y => if y = "name" then some v else none)
theorem low_made (T : Txt prog K mg C fI) {v : Value} (X : K.In s.heap) (hg : s.heap.Ns mainGlobals mg) (hb : s.heap.Ns builtinsNs mb) (hbb : ∀ x : Str, x ≠ "__name__" → mb x = bootBuiltins x) (hlim : s.heap.NoLimit) (hroom : A.depth + 1 < recursionLimit)
    (hq : ∀ h' tk e d, OwnMade s.heap h' e C d v → R (.ok (.ret (.ref e))) { s with heap := h', toks := tk }) :
    codeAny (model prog w) A (.call (.ref C) ⟨[v], []⟩) R s := by
  obtain ⟨nm, q, N, bs, bm, sn, sub, ab, col, dd, k0, k1, k2, k3, k5, hC, hbm⟩ := T.cls
  obtain ⟨hp, g, dr, tk, os⟩ := s
  have k : ∀ b o, hp.get? b = some o → ((hp.push (kdv_tup [v])).push (excO C hp.objs.size)).get? b = some o := fun b o e => Heap.get?_push_of_some _ (Heap.get?_push_of_some _ e)
  have hget : ((hp.push (kdv_tup [v])).push (excO C hp.objs.size)).get? (hp.objs.size + 1) = some (excO C hp.objs.size) := by heap_get
  have hnx : K.lookup (hp.objs.size + 1) = none := by
    cases e : K.lookup (hp.objs.size + 1) with
    | none => rfl
    | some o =>
      have z : hp.get? (hp.objs.size + 1) = some o := X _ _ e
      exact absurd (Nat.lt_of_succ_lt (Heap.lt_size z)) (Nat.lt_irrefl _)
  have zg : mainGlobals < hp.objs.size := Heap.Ns.lt hg
  have zb : builtinsNs < hp.objs.size := Heap.Ns.lt hb
  have n1 : hp.objs.size + 1 ≠ mainGlobals := fun e => absurd (Nat.lt_succ_of_lt zg) (by rw [← e]; exact Nat.lt_irrefl _)
  have n2 : hp.objs.size + 1 ≠ builtinsNs := fun e => absurd (Nat.lt_succ_of_lt zb) (by rw [← e]; exact Nat.lt_irrefl _)
  refine call_own F.excBase_ValueError (fun X => refsVE_contains X bm hbm) (X _ _ hC) (looks_findIn X T.iC) (fun self => bind_fn X self T.tC) (by show 1 ≤ sizeLine; rw [sizeLine_eq]; omega) ?_
  refine low_init (mb := mb) (s := ⟨(hp.push (kdv_tup [v])).push (excO C hp.objs.size), g, dr, tk, os⟩) T (X.keeps k) (hg.keeps k) (hb.keeps k) hbb (hlim.keeps k) hget hnx n1 n2 ?_ fun h' tk' dx t1 ⟨k', hx, dn, dne, hns⟩ => ?_
  · show A.depth + 1 < recursionLimit
    exact hroom
  · have old : ∀ b o, hp.get? b = some o → h'.get? b = some o := fun b o e => k' b o (Nat.ne_of_lt (Nat.lt_succ_of_lt (Heap.lt_size e))) (k b o e)
    have z : hp.objs.size + 1 + 1 ≤ dx := by
      first
        | (simpa only [Heap.size_push] using dn)
        | exact dn
        | (have q := dn; rw [Heap.size_push, Heap.size_push] at q; exact q)
    exact ⟨rfl, hq h' tk' (hp.objs.size + 1) dx ⟨old, Nat.le_succ _, ⟨_, _, hx, rfl, rfl, rfl, rfl⟩, Nat.le_trans (Nat.le_trans (Nat.le_succ _) (Nat.le_succ _)) z, dne, hns⟩⟩
end
end LowName
namespace LowName
open PySem PySem.Spec PyProof.Rows L2
section
variable {X : Cx} {C fI : Addr} {W : WX}
theorem pmk {a : Expr} {ta : TA} {nm : Str} {p pos : Pos} {k : Nat} (T : Txt X.prog X.K X.mg C fI) (gC : X.mg nm = some (.ref C)) (hr : Room k X.A) (ha : PA X [a] ta) (hg : Gl X nm := by rfl) (hdb : (nm == ("__debug__" : Str)) = false := by decide)
    (he : starEach (a :: []) X.env = (false, eval a X.env) :: starEach [] X.env := by rfl) (hpl : (backTo pos (starEach [] X.env)).any (·.1) = false := by rfl) :
    PMk X (.Call (.Name nm p) [a] [] pos) (tMkF C "name" ta) := by
  intro pins s σ H Q I h
  refine wpAny_Call_Name_kw (ld_glob I hg gC ?_ hdb)
  refine PySem.W.callWith_K (h₀ := X.base) I.ok.mod.kin T.kC (thn (ha.run pos pins s σ H _ I h) fun us s1 hh => ?_) he hpl
  obtain ⟨vs, H1, I1, r1, v, ev, q1⟩ := hh
  subst ev
  refine ⟨I1.kIn, ?_⟩
  cases r1 with
  | cons rv rn =>
    rename_i v' us'
    cases rn
    show wpAny _ _ (call (.ref C) [v']) _ _ _
    have hlim := I1.nolimit
    have hgl := I1.mod.glob.keeps I1.bk
    obtain ⟨mb, hb0, hbb⟩ := I1.mod.blt
    have hbl := hb0.keeps I1.bk
    obtain ⟨hp, g, dr, tk, os⟩ := s1
    refine wpAny_call (low_made (mb := mb) T I1.kIn hgl hbl hbb hlim (by have := hr.dp; omega) fun h' tk' e d M => ?_)
    show MkP X pins σ Q (.ref e) ⟨h', g, dr, tk', os⟩
    obtain ⟨oe, fv, hoe, hc, hd, hdat, h1⟩ := M.obj
    have hns := M.ns
    obtain ⟨G', g1, g2⟩ := restrict h' fun b => decide (b ≠ e)
    have gk : ∀ b, b ≠ e → G'.get? b = h'.get? b := fun b hb => g1 b (decide_eq_true hb)
    have ge : G'.get? e = none := g2 e (by simp)
    have old : ∀ b o, hp.get? b = some o → G'.get? b = some o := fun b o q => (gk b (Nat.ne_of_lt (Nat.lt_of_lt_of_le (Heap.lt_size q) M.new))).trans (M.keep b o q)
    have ob : ObjOk X.prog X.w (upd H1 d (.xd [(("name" : Str), v)])) G' d (.xd [(("name" : Str), v)]) :=
      ⟨_, hns.at (fun o q => (gk d M.dne).trans q), fun f => relO_one rv f⟩
    have J : Inv X pins σ (upd H1 d (.xd [(("name" : Str), v)])) ⟨G', g, dr, tk', os⟩ := I1.laid (t' := tk') old M.dbig ob
    refine ⟨e, oe, fv, ⟨G', g, dr, tk', os⟩, _, .ref C, some d, rfl, J, fun b o q => ?_, ge, hoe, ⟨hc, hd⟩, hdat, h1, ?_, rfl, I1.bare, raises_own T.exC T.tyC, q1 d (I1.hok.fresh M.dbig)⟩
    · by_cases hb : b = e
      · have q' : G'.get? b = some o := q
        rw [hb, ge] at q'; cases q'
      · exact (gk b hb).symm.trans q
    · rw [upd_ne (Ne.symm M.dne)]
      exact I1.hok.fresh M.new
theorem ps_raise {a : Expr} {ta : TA} {nm : Str} {p pos pos2 : Pos} {k : Nat} (hc : X.calm = true) (T : Txt X.prog X.K X.mg C fI) (gC : X.mg nm = some (.ref C)) (hr : Room k X.A) (tk : Takes X W) (ha : PA X [a] ta) (hg : Gl X nm := by rfl) (hdb : (nm == ("__debug__" : Str)) = false := by decide)
    (he : starEach (a :: []) X.env = (false, eval a X.env) :: starEach [] X.env := by rfl) (hpl : (backTo pos (starEach [] X.env)).any (·.1) = false := by rfl) :
    PS X (.Raise (some (.Call (.Name nm p) [a] [] pos)) none pos2) (tRaiseF C "name" W ta) := L2.ps_raise hc tk (pmk T gC hr ha hg hdb he hpl)
end
end LowName
end Ld

set_option Elab.async false
set_option linter.all false
set_option maxRecDepth 100000
set_option maxHeartbeats 2000000
/-! An own error class over another one over ValueError, whose __init__ calls super().__init__ with a text and keeps its one argument as line: made, raised, its field read. -/
namespace Ld
namespace LowLine
open PySem PySem.W PySem.Calls PyProof.Rows PySem.HandSPX
/-! ### the text of __init__ -/
def tA (p1 p2 : Pos) : Arguments := { posonlyargs := [], args := [{ arg := "self", annotation := none, pos := p1 }, { arg := "line", annotation := none, pos := p2 }], vararg := none, kwonlyargs := [], kw_defaults := [], kwarg := none, defaults := [] }
def tB (txt : Str) (a1 a2 a3 a4 a5 a6 b1 b2 b3 b4 : Pos) : List Stmt := [.Expr (.Call (.Attribute (.Call (.Name "super" a1) [] [] a2) "__init__" a3) [.Constant (.str txt) 0 a4] [] a5) a6, .Assign [.Attribute (.Name "self" b1) "line" b2] (.Name "line" b3) b4]
def tS : Scope := { kind := .function, names := [(PySem.Str.ofString "self", .local), (PySem.Str.ofString "line", .local), (PySem.Str.ofString "__class__", .free), (PySem.Str.ofString "super", .globalImplicit)], isGenerator := false, isCoroutine := false, more := [] }
/-- super().__init__(txt) is a method's call, whatever stands around -/
def CallForm (txt : Str) (a1 a2 a3 a4 a5 : Pos) : Prop := ∀ env : Env, ∃ pl : Sem Bool, eval (.Call (.Attribute (.Call (.Name "super" a1) [] [] a2) "__init__" a3) [.Constant (.str txt) 0 a4] [] a5) env = (do
  let ov ← attributeBase (.Call (.Name "super" a1) [] [] a2) "__init__" env (eval (.Call (.Name "super" a1) [] [] a2) env)
  standAt a3.atName
  let (f, first) ← holding [ov] (getMethod ov "__init__" pl)
  callWith a5 f first (backTo a5 (starEach [.Constant (.str txt) 0 a4] env)) [])
/-- what the written part says of the class at C, and of its __init__, at fI -/
structure Txt (prog : Program) (K : Frag) (mg : Str → Option Value) (C fI : Addr) : Prop where
  cls : ∃ nm q N bs bm sn sub ab col dd k0 k1 k2 k3 k5, K.lookup C = some (excClassObj nm q C N bs bm true sn sub ab col dd k0 k1 k2 k3 k5 "ValueError.__new__") ∧ refsVE bm = true
  inI : excInitIn K C veTail "ValueError.__new__" = true
  sa : findIn K (.ref C) "__setattr__" = some (some (.builtin "object.__setattr__"))
  ga : findIn K (.ref C) "__getattribute__" = some (some (.builtin "BaseException.__getattribute__"))
  gg : findIn K (.ref C) "__getattr__" = some none
  noN : findIn K (.ref C) "line" = some none
  iC : findIn K (.ref C) "__init__" = some (some (.ref fI))
  tC : typeIn K (.ref fI) = some (.type "function")
  kC : keepIn K (.ref C) = true
  exC : subIn K (.ref C) (.type "BaseException") = some true
  exV : subIn K (.ref C) (.type "ValueError") = some true
  tyC : typeIn K (.ref C) = some (.type "type")
  hdC : hasDictIn K C = true
  mro : mroIn K C (.ref C) = some true
  sup : mg "super" = none
  above : ks_superIn K C C "__init__" = some (some (.builtin "ValueError.__init__"))
  opq : nsIn K cStatics "thirdparty.any" = some none
  htop : (prog.main.scope.names.lookup ("super" : Str)).isSome = false
  fn : ∃ (oc : Value) (od : Option Addr) (doc pm : Value) (an : Option Addr) (cda cc : Addr) (ct : Value) (osl : Array (Option Value)) (qual txt : Str) (p1 p2 a1 a2 a3 a4 a5 a6 b1 b2 b3 b4 : Pos) (ccl cl : Value) (cdd cld : Option Addr) (vs : Array Value) (ccs csl : Array (Option Value)) (file : Str) (tf : Tok),
    K.lookup fI = some ⟨oc, od, .func (ksFn "__init__" qual (tA p1 p2) (tB txt a1 a2 a3 a4 a5 a6 b1 b2 b3 b4) tS .none .none doc pm an (.ref cda) ct cc), osl⟩ ∧ codeIn K (.ref cda) qual = true ∧ K.lookup cda = some ⟨ccl, cdd, .fields vs, ccs⟩ ∧ vs[2]? = some (.str file tf) ∧
      ((prog.main.file : Str) == file) = true ∧ K.lookup cc = some ⟨cl, cld, .cell (some (.ref C)), csl⟩ ∧ CallForm txt a1 a2 a3 a4 a5
/-- what __init__ leaves of a fresh exception at x -/
structure InitEnd (h h' : Heap) (x C dx t1 : Addr) (v : Value) : Prop where
  keep : ∀ b o, b ≠ x → h.get? b = some o → h'.get? b = some o
  obj : h'.get? x = some { cls := .ref C, dict := some dx, data := .fields #[.ref t1, .none, .none, .none, .bool false, .none] }
  dbig : h.objs.size ≤ dx
  dne : dx ≠ x
  ns : h'.Ns1 dx (fun y => if y = "line" then some v else none)
section
variable {prog : Program} {w : World} {A : Around} {E : Value → Shared → Prop} {R : Result → Shared → Prop} {s : Shared} {K : Frag} {mg mb : Str → Option Value} {C fI : Addr}
theorem low_init (T : Txt prog K mg C fI) {x t0 : Addr} {v : Value} (X : K.In s.heap) (hg : s.heap.Ns mainGlobals mg) (hb : s.heap.Ns builtinsNs mb) (hbb : ∀ x : Str, x ≠ "__name__" → mb x = bootBuiltins x) (hlim : s.heap.NoLimit) (hx : s.heap.get? x = some (excO C t0)) (hnx : K.lookup x = none)
    (nx1 : x ≠ mainGlobals) (nx2 : x ≠ builtinsNs) (hroom : A.depth < recursionLimit)
    (hq : ∀ h' tk dx t1, InitEnd s.heap h' x C dx t1 v → R (.ok (.ret .none)) { s with heap := h', toks := tk }) :
    codeAny (model prog w) A (.call (.ref fI) ⟨[.ref x, v], []⟩) R s := by
  obtain ⟨oc, od, doc, pm, an, cda, cc, ct, osl, qual, txt, p1, p2, a1, a2, a3, a4, a5, a6, b1, b2, b3, b4, ccl, cl, cdd, cld, vs, ccs, csl, file, tf, ho, hcd, hcda, hvs, hfile, hcc, hform⟩ := T.fn
  obtain ⟨nm, q, N, bs, bm, sn, sub, ab, col, dd, k0, k1, k2, k3, k5, hC, hbm⟩ := T.cls
  have hcl : clsIn K C = some { name := nm, bases := bs, mro := .ref C :: bm, ns := N, qualname := q, hasDict := true, slotNames := sn, subclasses := sub, abstract := ab, collection := col, hasDel := false } := by unfold clsIn; rw [hC] <;> rfl
  refine ks_codeAny_call_defAt (fd := ksFn "__init__" qual (tA p1 p2) (tB txt a1 a2 a3 a4 a5 a6 b1 b2 b3 b4) tS .none .none doc pm an (.ref cda) ct cc) (body := tB txt a1 a2 a3 a4 a5 a6 b1 b2 b3 b4) (binds := [("self", .ref x), ("line", v)]) hroom (X _ _ ho) rfl hlim (codeRec_of X hcd) rfl (BindsTo.of_eq (by first | rfl | with_unfolding_all rfl)) (show ∀ y ∈ tS.names, y.2 ≠ .cell by decide) (fun y hy => by
    rcases List.mem_cons.mp hy with rfl | hy
    · rfl
    · rw [List.mem_singleton.mp hy]
      rfl) (fun h₁ hns kp => ?_)
  have hL : s.heap.objs.size < h₁.objs.size := hns.lt
  have hxL : x ≠ s.heap.objs.size := Nat.ne_of_lt (Heap.lt_size hx)
  have X1 : K.In h₁ := X.keeps kp
  have hx1 := kp _ _ hx
  have I1 : InstAt h₁ x (excO C t0) C none := ⟨hx1, rfl, rfl, trivial⟩
  show _root_.PySem.wpAt (model prog w) _ (.func _ (ksEnv qual tS s.heap.objs.size fI (.ref cda) cc)) (execs (tB txt a1 a2 a3 a4 a5 a6 b1 b2 b3 b4) (ksEnv qual tS s.heap.objs.size fI (.ref cda) cc)) _ _ _
  have ms : (fun y => List.lookup y [(PySem.Str.ofString "self", Value.ref x), (PySem.Str.ofString "line", v)].reverse) "self" = some (.ref x) := by rfl
  have mf : (fun y => List.lookup y [(PySem.Str.ofString "self", Value.ref x), (PySem.Str.ofString "line", v)].reverse) "line" = some v := by rfl
  obtain ⟨oD, hD1, hD2⟩ : ∃ oD, h₁.get? C = some oD ∧ oD.data = .cls { name := nm, bases := bs, mro := .ref C :: bm, ns := N, qualname := q, hasDict := true, slotNames := sn, subclasses := sub, abstract := ab, collection := col, hasDel := false } := ⟨_, X1 _ _ hC, rfl⟩
  -- super().__init__(txt)
  obtain ⟨pl, he⟩ := hform (ksEnv qual tS s.heap.objs.size fI (.ref cda) cc)
  refine ks_wpAt_execs_cons (ks_wpAt_Expr_any (ks_wpAt_MethodCall (pl := pl) ?_ he))
  refine ks_wpAt_super_base (env := ksEnv qual tS s.heap.objs.size fI (.ref cda) cc) rfl rfl rfl rfl (X1 _ _ ho) rfl (ar := { arg := "self", annotation := none, pos := p1 }) rfl rfl (X1 _ _ hcda) rfl hvs hfile T.htop ?_
  refine ks_loadName_global rfl rfl (loadGlobal_builtin (env := ksEnv qual tS s.heap.objs.size fI (.ref cda) cc) (hg.keeps kp) T.sup (hb.keeps kp) ((hbb _ (by decide)).trans (by decide +kernel)) ⟨rfl, ?_⟩)
  refine wpAny_loadName_free rfl rfl rfl ⟨_, X1 _ _ hcc, rfl⟩ ?_
  refine wpAny_loadName_local rfl rfl hns ms ?_
  refine ks_wpAny_isType_cls hD1 hD2 ⟨rfl, ?_⟩
  refine ks_wpAny_call_super hD1 hD2 hx1 rfl (fun c e => by cases e) (looks_mroIn X1 T.mro) (fun h2 e2 k2 => ?_)
  have X2 : K.In h2 := X1.keeps k2
  have I2 : InstAt h2 x (excO C t0) C none := ⟨k2 _ _ hx1, rfl, rfl, trivial⟩
  have ab := T.above
  unfold ks_superIn at ab
  rw [hcl, Option.bind_some] at ab
  refine kxs_getMethod kxs_ValueError e2 (looks_opaque X2 T.opq) (l₀ := .ref C :: bm) ((looks_clsIn X2 hcl).andThen .now) rfl X2 ab (I2.type.andThen (looks_subIn X2 T.exV)) (ks_ne X2 I2 hcl) (by decide) ?_
  show wpAny _ _ (callWith a5 (.ref h2.objs.size) [] (backTo a5 (starEach [.Constant (.str txt) 0 a4] (ksEnv qual tS s.heap.objs.size fI (.ref cda) cc))) []) _ _ _
  have hu : (h2.push (kxs_mw "ValueError.__init__" x)).get? h2.objs.size = some (kxs_mw "ValueError.__init__" x) := Heap.get?_push_size _ rfl
  have k3 : ∀ b o, h₁.get? b = some o → (h2.push (kxs_mw "ValueError.__init__" x)).get? b = some o := fun b o e => Heap.get?_push_of_some _ (k2 b o e)
  refine kxs_callWith (i := "ValueError.__init__") (x := x) rfl ?_
  show wpAny _ _ (evalArgs _ true ((false, eval (.Constant (.str txt) 0 a4) (ksEnv qual tS s.heap.objs.size fI (.ref cda) cc)) :: []) []) _ _ _
  refine evalArgs_plain (spliced_cons (Constant_str (spliced_nil ⟨hu, ?_⟩)))
  show wpAny _ _ (call (.ref h2.objs.size) [.str txt _]) _ _ _
  -- the ground: the heap ahead of the call, but for the exception itself
  have g1 : ∀ b o, b ≠ x → s.heap.get? b = some o → (hideAll s.heap [x]).get? b = some o := fun b o nb e => hideAll_get _ e (by simpa using nb)
  have gx : (hideAll s.heap [x]).get? x = none := hideAll_none _ (by simp)
  have XG : K.In (hideAll s.heap [x]) := fun a o e => g1 a o (fun z => by rw [z, hnx] at e; cases e) (X a o e)
  have F3 : Fr (hideAll s.heap [x]) s.heap.objs.size (h2.push (kxs_mw "ValueError.__init__" x)) (fun y => List.lookup y [(PySem.Str.ofString "self", Value.ref x), (PySem.Str.ofString "line", v)].reverse) :=
    ⟨hns.keeps k3, fun b o e => k3 b o (kp b o (of_hideAll _ e)), Nat.le_of_eq (hideAll_size _ _)⟩
  have nu : h2.objs.size ≠ x := Nat.ne_of_gt (Heap.lt_size (k2 _ _ hx1))
  have big : s.heap.objs.size < h2.objs.size := by
    obtain ⟨o, _, _, e, _⟩ := hns
    exact Heap.lt_size (k2 _ _ e)
  have N3 : News (hideAll s.heap [x]) s.heap.objs.size (h2.push (kxs_mw "ValueError.__init__" x)) [(h2.objs.size, kxs_mw "ValueError.__init__" x), (x, excObj C t0 none .none)] := fun p hp => by
    rcases List.mem_cons.mp hp with rfl | hp
    · refine ⟨hu, Nat.ne_of_gt big, ?_⟩
      exact Heap.get?_none_of_le (by rw [hideAll_size]; exact Nat.le_of_lt big)
    · rw [List.mem_singleton.mp hp]
      exact ⟨k3 _ _ hx1, hxL, gx⟩
  refine kxs_call (x := x) (t := t0) (dv := none) (c2 := .none) (nw := fun o' => [(h2.objs.size, kxs_mw "ValueError.__init__" x), (x, o')]) F3 XG N3 F.excBase_ValueError T.inI (by simp) (.tail nu (.head fun _ z => nomatch z)) (by show 1 ≤ sizeLine; decide) fun t1 h4 F4 N4 _ => ?_
  have hx4 : h4.get? x = some (excObj C t1 none .none) := (N4 (x, excObj C t1 none .none) (by simp)).1
  have X4 : K.In h4 := fun a o e => F4.keep a o (XG a o e)
  have z4 : s.heap.objs.size < h4.objs.size := F4.ns.lt
  show _root_.PySem.wpAt _ _ _ (execs (.Assign [.Attribute (.Name "self" b1) "line" b2] (.Name "line" b3) b4 :: []) (ksEnv qual tS s.heap.objs.size fI (.ref cda) cc)) _ _ _
  refine wpAt_of_wpAny (wpAny_execs_cons (plainObj_wpAny_Assign_Attribute ?_))
  refine wpAny_Name (wpAny_loadName_local rfl rfl F4.ns mf ?_) (by decide)
  refine wpAny_Name (wpAny_loadName_local rfl rfl F4.ns ms ?_) (by decide)
  refine set_plain X4 (ox := excObj C t1 none .none) (od := none) ⟨hx4, rfl, rfl, trivial⟩ T.sa ?_
  refine exc_osa X4 hx4 hcl (show refsVE (.ref C :: bm) = true from hbm) rfl T.noN (fun h5 tk5 dx kk dn dne hx5 hn5 => ?_)
  exact wpAny_execs_nil (hq h5 tk5 dx t1 ⟨fun b o nb e => kk b o nb (F4.keep b o (g1 b o nb e)), hx5, Nat.le_of_lt (Nat.lt_of_lt_of_le z4 dn), dne, hn5⟩)
/-- a made one -/
structure OwnMade (h h' : Heap) (e C d : Addr) (v : Value) : Prop where
  keep : ∀ b o, h.get? b = some o → h'.get? b = some o
  new : h.objs.size ≤ e
  obj : ∃ oe vs, h'.get? e = some oe ∧ oe.cls = .ref C ∧ oe.dict = some d ∧ oe.data = .fields vs ∧ vs[1]? = some .none
  dbig : h.objs.size ≤ d
  dne : d ≠ e
  ns : h'.Ns1 d (fun y => if y = "line" then some v else none)
theorem low_made (T : Txt prog K mg C fI) {v : Value} (X : K.In s.heap) (hg : s.heap.Ns mainGlobals mg) (hb : s.heap.Ns builtinsNs mb) (hbb : ∀ x : Str, x ≠ "__name__" → mb x = bootBuiltins x) (hlim : s.heap.NoLimit) (hroom : A.depth + 1 < recursionLimit)
    (hq : ∀ h' tk e d, OwnMade s.heap h' e C d v → R (.ok (.ret (.ref e))) { s with heap := h', toks := tk }) :
    codeAny (model prog w) A (.call (.ref C) ⟨[v], []⟩) R s := by
  obtain ⟨nm, q, N, bs, bm, sn, sub, ab, col, dd, k0, k1, k2, k3, k5, hC, hbm⟩ := T.cls
  obtain ⟨hp, g, dr, tk, os⟩ := s
  have k : ∀ b o, hp.get? b = some o → ((hp.push (kdv_tup [v])).push (excO C hp.objs.size)).get? b = some o := fun b o e => Heap.get?_push_of_some _ (Heap.get?_push_of_some _ e)
  have hget : ((hp.push (kdv_tup [v])).push (excO C hp.objs.size)).get? (hp.objs.size + 1) = some (excO C hp.objs.size) := by heap_get
  have hnx : K.lookup (hp.objs.size + 1) = none := by
    cases e : K.lookup (hp.objs.size + 1) with
    | none => rfl
    | some o =>
      have z : hp.get? (hp.objs.size + 1) = some o := X _ _ e
      exact absurd (Nat.lt_of_succ_lt (Heap.lt_size z)) (Nat.lt_irrefl _)
  have zg : mainGlobals < hp.objs.size := Heap.Ns.lt hg
  have zb : builtinsNs < hp.objs.size := Heap.Ns.lt hb
  have n1 : hp.objs.size + 1 ≠ mainGlobals := fun e => absurd (Nat.lt_succ_of_lt zg) (by rw [← e]; exact Nat.lt_irrefl _)
  have n2 : hp.objs.size + 1 ≠ builtinsNs := fun e => absurd (Nat.lt_succ_of_lt zb) (by rw [← e]; exact Nat.lt_irrefl _)
  refine call_own F.excBase_ValueError (fun X => refsVE_contains X bm hbm) (X _ _ hC) (looks_findIn X T.iC) (fun self => bind_fn X self T.tC) (by show 1 ≤ sizeLine; rw [sizeLine_eq]; omega) ?_
  refine low_init (mb := mb) (s := ⟨(hp.push (kdv_tup [v])).push (excO C hp.objs.size), g, dr, tk, os⟩) T (X.keeps k) (hg.keeps k) (hb.keeps k) hbb (hlim.keeps k) hget hnx n1 n2 ?_ fun h' tk' dx t1 ⟨k', hx, dn, dne, hns⟩ => ?_
  · show A.depth + 1 < recursionLimit
    exact hroom
  · have old : ∀ b o, hp.get? b = some o → h'.get? b = some o := fun b o e => k' b o (Nat.ne_of_lt (Nat.lt_succ_of_lt (Heap.lt_size e))) (k b o e)
    have z : hp.objs.size + 1 + 1 ≤ dx := by
      first
        | (simpa only [Heap.size_push] using dn)
        | exact dn
        | (have q := dn; rw [Heap.size_push, Heap.size_push] at q; exact q)
    exact ⟨rfl, hq h' tk' (hp.objs.size + 1) dx ⟨old, Nat.le_succ _, ⟨_, _, hx, rfl, rfl, rfl, rfl⟩, Nat.le_trans (Nat.le_trans (Nat.le_succ _) (Nat.le_succ _)) z, dne, hns⟩⟩
end
end LowLine
namespace LowLine
open PySem PySem.Spec PyProof.Rows L2
section
variable {X : Cx} {C fI : Addr} {W : WX}
theorem pmk {a : Expr} {ta : TA} {nm : Str} {p pos : Pos} {k : Nat} (T : Txt X.prog X.K X.mg C fI) (gC : X.mg nm = some (.ref C)) (hr : Room k X.A) (ha : PA X [a] ta) (hg : Gl X nm := by rfl) (hdb : (nm == ("__debug__" : Str)) = false := by decide)
    (he : starEach (a :: []) X.env = (false, eval a X.env) :: starEach [] X.env := by rfl) (hpl : (backTo pos (starEach [] X.env)).any (·.1) = false := by rfl) :
    PMk X (.Call (.Name nm p) [a] [] pos) (tMkF C "line" ta) := by
  intro pins s σ H Q I h
  refine wpAny_Call_Name_kw (ld_glob I hg gC ?_ hdb)
  refine PySem.W.callWith_K (h₀ := X.base) I.ok.mod.kin T.kC (thn (ha.run pos pins s σ H _ I h) fun us s1 hh => ?_) he hpl
  obtain ⟨vs, H1, I1, r1, v, ev, q1⟩ := hh
  subst ev
  refine ⟨I1.kIn, ?_⟩
  cases r1 with
  | cons rv rn =>
    rename_i v' us'
    cases rn
    show wpAny _ _ (call (.ref C) [v']) _ _ _
    have hlim := I1.nolimit
    have hgl := I1.mod.glob.keeps I1.bk
    obtain ⟨mb, hb0, hbb⟩ := I1.mod.blt
    have hbl := hb0.keeps I1.bk
    obtain ⟨hp, g, dr, tk, os⟩ := s1
    refine wpAny_call (low_made (mb := mb) T I1.kIn hgl hbl hbb hlim (by have := hr.dp; omega) fun h' tk' e d M => ?_)
    show MkP X pins σ Q (.ref e) ⟨h', g, dr, tk', os⟩
    obtain ⟨oe, fv, hoe, hc, hd, hdat, h1⟩ := M.obj
    have hns := M.ns
    obtain ⟨G', g1, g2⟩ := restrict h' fun b => decide (b ≠ e)
    have gk : ∀ b, b ≠ e → G'.get? b = h'.get? b := fun b hb => g1 b (decide_eq_true hb)
    have ge : G'.get? e = none := g2 e (by simp)
    have old : ∀ b o, hp.get? b = some o → G'.get? b = some o := fun b o q => (gk b (Nat.ne_of_lt (Nat.lt_of_lt_of_le (Heap.lt_size q) M.new))).trans (M.keep b o q)
    have ob : ObjOk X.prog X.w (upd H1 d (.xd [(("line" : Str), v)])) G' d (.xd [(("line" : Str), v)]) :=
      ⟨_, hns.at (fun o q => (gk d M.dne).trans q), fun f => relO_one rv f⟩
    have J : Inv X pins σ (upd H1 d (.xd [(("line" : Str), v)])) ⟨G', g, dr, tk', os⟩ := I1.laid (t' := tk') old M.dbig ob
    refine ⟨e, oe, fv, ⟨G', g, dr, tk', os⟩, _, .ref C, some d, rfl, J, fun b o q => ?_, ge, hoe, ⟨hc, hd⟩, hdat, h1, ?_, rfl, I1.bare, raises_own T.exC T.tyC, q1 d (I1.hok.fresh M.dbig)⟩
    · by_cases hb : b = e
      · have q' : G'.get? b = some o := q
        rw [hb, ge] at q'; cases q'
      · exact (gk b hb).symm.trans q
    · rw [upd_ne (Ne.symm M.dne)]
      exact I1.hok.fresh M.new
theorem ps_raise {a : Expr} {ta : TA} {nm : Str} {p pos pos2 : Pos} {k : Nat} (hc : X.calm = true) (T : Txt X.prog X.K X.mg C fI) (gC : X.mg nm = some (.ref C)) (hr : Room k X.A) (tk : Takes X W) (ha : PA X [a] ta) (hg : Gl X nm := by rfl) (hdb : (nm == ("__debug__" : Str)) = false := by decide)
    (he : starEach (a :: []) X.env = (false, eval a X.env) :: starEach [] X.env := by rfl) (hpl : (backTo pos (starEach [] X.env)).any (·.1) = false := by rfl) :
    PS X (.Raise (some (.Call (.Name nm p) [a] [] pos)) none pos2) (tRaiseF C "line" W ta) := L2.ps_raise hc tk (pmk T gC hr ha hg hdb he hpl)
end
end LowLine
end Ld

set_option Elab.async false
set_option linter.all false
set_option maxRecDepth 100000
set_option maxHeartbeats 2000000
/-! From what the top has written to what the texts ask. -/
namespace Ld
open PySem PySem.Spec PyProof.Rows L2
variable {K : PySem.W.Frag} {mg : Str → Option Value} {h : Heap} {f C : Addr} {x m qual : Str} {st : Stmt} {ps : List Str} {od an : Option Addr} {sl : Array (Option Value)} {oc kV dc pm cd ct : Value}
theorem fn_raw (l : K.lookup f = some ⟨oc, od, .func (PySem.W.fnOf x qual (defArgs st) (defBody st) (defScope st) .none kV dc pm an cd ct), sl⟩) (c : PySem.W.codeIn K cd qual = true) (k : PySem.W.keepIn K (.ref f) = true) :
    Fun K x qual st f (PySem.W.fnOf x qual (defArgs st) (defBody st) (defScope st) .none kV dc pm an cd ct) := fun_mk (st := st) l c k
def ArgsAt (x qual : Str) (st : Stmt) (ps : List Str) : Prop := ∀ (kV doc pm : Value) (an : Option Addr) (cdv ct : Value) (us : List Value), us.length = ps.length → bindArgs (PySem.W.fnOf x qual (defArgs st) (defBody st) (defScope st) .none kV doc pm an cdv ct) { pos := us } = pure (ps.zip us)
theorem fnAt_mk (X : K.In h) (G : h.Ns mainGlobals mg) (a : PySem.W.nsIn K mainGlobals x = some (some (.ref f)))
    (l : K.lookup f = some ⟨oc, od, .func (PySem.W.fnOf x x (defArgs st) (defBody st) (defScope st) .none kV dc pm an cd ct), sl⟩) (c : PySem.W.codeIn K cd x = true) (k : PySem.W.keepIn K (.ref f) = true)
    (b : ArgsAt x x st ps) : FnAt K mg x st ps := ⟨f, _, PySem.W.mg_of X G a, fn_raw l c k, (fn_raw l c k).binds b⟩
theorem methAt_mk (a : PySem.W.findIn K (.ref C) m = some (some (.ref f))) (i : PySem.W.isFn K (.ref f) = true)
    (l : K.lookup f = some ⟨oc, od, .func (PySem.W.fnOf m qual (defArgs st) (defBody st) (defScope st) .none kV dc pm an cd ct), sl⟩) (c : PySem.W.codeIn K cd qual = true) (k : PySem.W.keepIn K (.ref f) = true)
    (b : ArgsAt m qual st ps) : MethAt K C m qual st ps := ⟨f, _, ⟨a, i, k⟩, fn_raw l c k, (fn_raw l c k).binds b⟩
theorem initAt_mk (X : K.In h) (G : h.Ns mainGlobals mg) (cl : Cls K C) (g : PySem.W.nsIn K mainGlobals x = some (some (.ref C))) (mk : PySem.W.makesIn K C = true) (kc : PySem.W.keepIn K (.ref C) = true) (a : PySem.W.findIn K (.ref C) "__init__" = some (some (.ref f))) (i : PySem.W.isFn K (.ref f) = true)
    (l : K.lookup f = some ⟨oc, od, .func (PySem.W.fnOf "__init__" qual (defArgs st) (defBody st) (defScope st) .none kV dc pm an cd ct), sl⟩) (c : PySem.W.codeIn K cd qual = true) (k : PySem.W.keepIn K (.ref f) = true)
    (b : ArgsAt "__init__" qual st ps) : InitAt K mg C x qual st ps := ⟨cl, PySem.W.mg_of X G g, f, _, ⟨mk, a, i, kc⟩, fn_raw l c k, (fn_raw l c k).binds b⟩
theorem const_mk {n : Int} {t : Tok} (X : K.In h) (G : h.Ns mainGlobals mg) (a : PySem.W.nsIn K mainGlobals x = some (some (.int n t))) : ∃ u, mg x = some u ∧ RelV (.int n) u := ⟨_, PySem.W.mg_of X G a, ⟨t, rfl⟩⟩
theorem constS_mk {n : Str} {t : Tok} (X : K.In h) (G : h.Ns mainGlobals mg) (a : PySem.W.nsIn K mainGlobals x = some (some (.str n t))) : ∃ u, mg x = some u ∧ RelV (.str n) u := ⟨_, PySem.W.mg_of X G a, ⟨t, rfl⟩⟩
end Ld

set_option Elab.async false
set_option linter.all false
set_option maxRecDepth 100000
set_option maxHeartbeats 2000000
/-! A pot that numbers are drawn from; values that hang on nothing that was there before. -/
namespace Ld
open PySem PySem.Spec PyProof.Rows L2
/-- three numbers; the third counts what was drawn -/
def PotAt (H : Hp) (p : Addr) (n : Nat) : Prop := ∃ a b c : Int, H p = some (.lst [.int a, .int b, .int c]) ∧ 0 ≤ a ∧ 0 ≤ b ∧ b < 2 ^ 200 ∧ 0 ≤ c ∧ c ≤ (n : Int)
theorem PotAt.mono {H : Hp} {p : Addr} {n m : Nat} (h : PotAt H p n) (l : n ≤ m) : PotAt H p m := by
  obtain ⟨a, b, c, e, h1, h2, h3, h4, h5⟩ := h
  exact ⟨a, b, c, e, h1, h2, h3, h4, by omega⟩
theorem PotAt.same {H H' : Hp} {p : Addr} {n : Nat} (h : PotAt H p n) (k : Same H H') : PotAt H' p n := by
  obtain ⟨a, b, c, e, h1, h2, h3, h4, h5⟩ := h
  exact ⟨a, b, c, k _ _ e, h1, h2, h3, h4, h5⟩
theorem PotAt.ne {H : Hp} {p : Addr} {n : Nat} (h : PotAt H p n) : H p ≠ none := by
  obtain ⟨a, b, c, e, _⟩ := h
  rw [e]
  exact fun z => nomatch z
theorem bits_le {x : Int} {k : Nat} (h0 : 0 < k) (h : x.natAbs < 2 ^ k) : Builtin.Int.intBits x ≤ k := by
  have := PySem.Flt.log2_lt_of h0 h
  unfold Builtin.Int.intBits
  split <;> omega
theorem cpow3 {x : Int} (h0 : 0 ≤ x) (h : x < 2 ^ 300) : CPowW x 3 := by
  have b : Builtin.Int.intBits x ≤ 300 := bits_le (by omega) (by omega)
  refine ⟨by omega, ?_⟩
  have : (Builtin.Int.intBits x : Int) ≤ 300 := by omega
  omega
theorem cmul {i j : Int} (h0 : 0 ≤ i) (h : i < 2 ^ 300) (g0 : 0 ≤ j) (g : j < 2 ^ 300) : CMulW i j := wide_mul (a := 300) (b := 300) (by omega) (by omega) (by omega) (by omega) (by omega)
theorem cdiv {i j : Int} (h0 : 0 < j) (h : j < 2 ^ 300) : CDivW i j := wide_div h0 (b := 300) (by omega) (by omega) (by omega)
theorem cpow3m {X M k x : Int} (h0 : 0 < M) (h1 : M ≤ 2 ^ 200) (k0 : 0 ≤ k) (k1 : k ≤ 2 ^ 40) (x0 : 0 ≤ x) (x1 : x ≤ 2 ^ 61) : CPowW (X % M + k * x) 3 := by
  have a := Int.emod_nonneg X (show M ≠ 0 by omega)
  have b := Int.emod_lt_of_pos X h0
  have c : k * x ≤ 2 ^ 40 * 2 ^ 61 := Int.mul_le_mul k1 x1 x0 (by omega)
  have d : 0 ≤ k * x := Int.mul_nonneg k0 x0
  exact cpow3 (by omega) (by omega)
theorem cpow3a {y k x : Int} (y0 : 0 ≤ y) (y1 : y < 2 ^ 200) (k0 : 0 ≤ k) (k1 : k ≤ 2 ^ 40) (x0 : 0 ≤ x) (x1 : x ≤ 2 ^ 61) : CPowW (y + k * x) 3 := by
  have c : k * x ≤ 2 ^ 40 * 2 ^ 61 := Int.mul_le_mul k1 x1 x0 (by omega)
  have d : 0 ≤ k * x := Int.mul_nonneg k0 x0
  exact cpow3 (by omega) (by omega)
/-- a value that hangs on nothing of H but what never changes -/
def Fd (K : PySem.W.Frag) (H H1 : Hp) (v : V) (d : PyData) : Prop := ∀ (q : Addr → Prop) (H' : Hp), (∀ b, q b → H b ≠ none) → Keep q H1 H' → Dp K H' v d
theorem Fd.dp {K : PySem.W.Frag} {H H1 : Hp} {v : V} {d : PyData} (h : Fd K H H1 v d) : Dp K H1 v d := h (fun _ => False) H1 (fun _ z => z.elim) (Keep.refl H1)
/-- what stood stands, but for the pot -/
structure Gr (p : Addr) (H H' : Hp) : Prop where
  keep : Keep (fun b => b = p) H H'
  ne : H p ≠ none → H' p ≠ none
theorem Gr.refl (p : Addr) (H : Hp) : Gr p H H := ⟨Keep.refl H, id⟩
theorem Gr.trans {p : Addr} {H H1 H2 : Hp} (a : Gr p H H1) (b : Gr p H1 H2) : Gr p H H2 := ⟨a.keep.trans b.keep, fun z => b.ne (a.ne z)⟩
theorem Gr.of {p : Addr} {H H' : Hp} (s : Same H H') : Gr p H H' := ⟨Keep.of s, fun z => by
  cases e : H p with
  | none => exact absurd e z
  | some o => rw [s _ _ e]; exact fun z => nomatch z⟩
theorem Gr.dom {p : Addr} {H H' : Hp} (g : Gr p H H') : ∀ b, H b ≠ none → H' b ≠ none := fun b z => by
  by_cases e : b = p
  · rw [e] at z ⊢; exact g.ne z
  · cases q : H b with
    | none => exact absurd q z
    | some o => rw [g.keep b o e q]; exact fun z => nomatch z
theorem Fd.weak {K : PySem.W.Frag} {H0 H H1 : Hp} {v : V} {d : PyData} (h : Fd K H H1 v d) (g : ∀ b, H0 b ≠ none → H b ≠ none) : Fd K H0 H1 v d := fun q H' z k => h q H' (fun b y => g b (z b y)) k
/-- later on it is the same value -/
theorem Fd.later {K : PySem.W.Frag} {H H1 H2 : Hp} {v : V} {d : PyData} {p : Addr} (h : Fd K H H1 v d) (hp : H p ≠ none) (g : Gr p H1 H2) : Fd K H H2 v d := fun q H' z k =>
  h (fun b => q b ∨ b = p) H' (fun b y => y.elim (z b) fun e => e ▸ hp) fun b o nb e => k b o (fun y => nb (.inl y)) (g.keep b o (fun y => nb (.inr y)) e)
theorem Fd.same {K : PySem.W.Frag} {H H1 H2 : Hp} {v : V} {d : PyData} (h : Fd K H H1 v d) (s : Same H1 H2) : Fd K H H2 v d := fun q H' z k => h q H' z fun b o nb e => k b o nb (s b o e)
theorem Fd.int {K : PySem.W.Frag} {H H1 : Hp} (i : Int) : Fd K H H1 (.int i) (.int i) := fun _ _ _ _ => .int i
theorem Fd.bl {K : PySem.W.Frag} {H H1 : Hp} (i : Bool) : Fd K H H1 (.bl i) (.bool i) := fun _ _ _ _ => .bl i
theorem Fd.str {K : PySem.W.Frag} {H H1 : Hp} (i : Str) : Fd K H H1 (.str i) (.str i) := fun _ _ _ _ => .str i
theorem Fd.non {K : PySem.W.Frag} {H H1 : Hp} : Fd K H H1 .non .none := fun _ _ _ _ => .non
inductive FdAll (K : PySem.W.Frag) (H H1 : Hp) : List V → List PyData → Prop
  | nil : FdAll K H H1 [] []
  | cons {v : V} {d : PyData} {vs : List V} {ds : List PyData} (h : Fd K H H1 v d) (t : FdAll K H H1 vs ds) : FdAll K H H1 (v :: vs) (d :: ds)
theorem FdAll.get {K : PySem.W.Frag} {H H1 : Hp} {vs : List V} {ds : List PyData} (h : FdAll K H H1 vs ds) (q : Addr → Prop) (H' : Hp) (z : ∀ b, q b → H b ≠ none) (k : Keep q H1 H') : DpAll K H' vs ds := by
  induction h with
  | nil => exact .nil
  | cons h _ ih => exact .cons (h q H' z k) ih
/-- a new tuple of such values -/
theorem Fd.tup {K : PySem.W.Frag} {H H1 : Hp} {vs : List V} {ds : List PyData} {t : Addr} (h : FdAll K H H1 vs ds) (e : H1 t = some (.tup vs)) (nh : H t = none) : Fd K H H1 (.ref t) (.tuple ds) := fun q H' z k =>
  .tup (.inl (.inl (k t _ (fun y => z t y nh) e))) (h.get q H' z k)
theorem Fd.lst {K : PySem.W.Frag} {H H1 : Hp} {vs : List V} {ds : List PyData} {t : Addr} (h : FdAll K H H1 vs ds) (e : H1 t = some (.lst vs)) (nh : H t = none) : Fd K H H1 (.ref t) (.list ds) := fun q H' z k =>
  .lst (.inl (.inl (k t _ (fun y => z t y nh) e))) (h.get q H' z k)
theorem Gr.none {p : Addr} {H H' : Hp} {t : Addr} (g : Gr p H H') (n : H' t = Option.none) : H t = Option.none := by
  cases e : H t with
  | none => rfl
  | some o => exact absurd n (g.dom t (by rw [e]; exact fun z => nomatch z))
theorem FdAll.later {K : PySem.W.Frag} {H H1 H2 : Hp} {vs : List V} {ds : List PyData} {p : Addr} (h : FdAll K H H1 vs ds) (hp : H p ≠ none) (g : Gr p H1 H2) : FdAll K H H2 vs ds := by
  induction h with
  | nil => exact .nil
  | cons h _ ih => exact .cons (h.later hp g) ih
theorem FdAll.same {K : PySem.W.Frag} {H H1 H2 : Hp} {vs : List V} {ds : List PyData} (h : FdAll K H H1 vs ds) (s : Same H1 H2) : FdAll K H H2 vs ds := by
  induction h with
  | nil => exact .nil
  | cons h _ ih => exact .cons (h.same s) ih
theorem FdAll.snoc {K : PySem.W.Frag} {H H1 : Hp} {vs : List V} {ds : List PyData} {v : V} {d : PyData} (h : FdAll K H H1 vs ds) (hv : Fd K H H1 v d) : FdAll K H H1 (vs ++ [v]) (ds ++ [d]) := by
  induction h with
  | nil => exact .cons hv .nil
  | cons h _ ih => exact .cons h ih
/-- drawing: 0 ≤ r < many -/
def spDip : Sp := fun vs H Q _ => ∃ (p : Addr) (many : Int) (n : Nat), vs = [.ref p, .int many] ∧ PotAt H p n ∧ n < 2 ^ 60 ∧ 0 < many ∧ many < 2 ^ 200 ∧ ∀ r H', 0 ≤ r → r < many → Gr p H H' → PotAt H' p (n + 1) → Q (.int r) H'
theorem cpowc {i j : Int} (h : 0 ≤ j) (g : i.natAbs < 2 ^ 64) (l : j ≤ 100000) : CPowW i j := by
  have b : Builtin.Int.intBits i ≤ 64 := bits_le (by omega) g
  refine ⟨h, ?_⟩
  have b' : (Builtin.Int.intBits i : Int) ≤ 64 := by omega
  have : (Builtin.Int.intBits i : Int) * j ≤ 64 * 100000 := Int.mul_le_mul b' l h (by omega)
  omega
theorem modk {x M c : Int} {k : Nat} (h0 : 0 < M) (h1 : M ≤ 2 ^ 150) (c0 : 0 ≤ c) (c1 : c ≤ 2 ^ 40) (hk : k ≤ 1000) : 0 ≤ x % M + c * k ∧ x % M + c * k < 2 ^ 200 := by
  have a := Int.emod_nonneg x (show M ≠ 0 by omega)
  have b := Int.emod_lt_of_pos x h0
  have e : c * k ≤ 2 ^ 40 * 1000 := Int.mul_le_mul c1 (by omega) (by omega) (by omega)
  have d : 0 ≤ c * (k : Int) := Int.mul_nonneg c0 (by omega)
  omega
theorem Fd.later2 {K : PySem.W.Frag} {H H1 H2 : Hp} {v : V} {d : PyData} {p D : Addr} (h : Fd K H H1 v d) (hp : H p ≠ none) (hD : H D ≠ none) (g : Keep (fun b => b = p ∨ b = D) H1 H2) : Fd K H H2 v d := fun q H' z k =>
  h (fun b => q b ∨ (b = p ∨ b = D)) H' (fun b y => y.elim (z b) fun e => e.elim (fun e => e ▸ hp) fun e => e ▸ hD) fun b o nb e => k b o (fun y => nb (.inl y)) (g b o (fun y => nb (.inr y)) e)
theorem FdAll.later2 {K : PySem.W.Frag} {H H1 H2 : Hp} {vs : List V} {ds : List PyData} {p D : Addr} (h : FdAll K H H1 vs ds) (hp : H p ≠ none) (hD : H D ≠ none) (g : Keep (fun b => b = p ∨ b = D) H1 H2) : FdAll K H H2 vs ds := by
  induction h with
  | nil => exact .nil
  | cons h _ ih => exact .cons (h.later2 hp hD g) ih
theorem FdAll.weak {K : PySem.W.Frag} {H0 H H1 : Hp} {vs : List V} {ds : List PyData} (h : FdAll K H H1 vs ds) (g : ∀ b, H0 b ≠ none → H b ≠ none) : FdAll K H0 H1 vs ds := by
  induction h with
  | nil => exact .nil
  | cons h _ ih => exact .cons (h.weak g) ih
theorem FdAll.len {K : PySem.W.Frag} {H H1 : Hp} {vs : List V} {ds : List PyData} (h : FdAll K H H1 vs ds) : vs.length = ds.length := by
  induction h with
  | nil => rfl
  | cons _ _ ih => simp [ih]
/-- a comprehension over range, its count come -/
def LcRng (g : TG) (tt : TT) (te : TE) (vs : List Nat) (σ : L2.St) (Q : VK) (ws : List V) (H : Hp) : Prop := tLc (iRng1 fun _ H Q => Q ws H) g tt te vs σ H Q
theorem tLc_rng {g : TG} {tt : TT} {te : TE} {vs : List Nat} {σ : L2.St} {Q : VK} {H : Hp} {ta : TA} : tLc (iRng1 ta) g tt te vs σ H Q = ta σ H (LcRng g tt te vs σ Q) := rfl
/-- a comprehension over range whose items are drawn: cost draws each -/
theorem lcDraw {K : PySem.W.Frag} {H : Hp} {Q : VK} {σ : L2.St} {g : TG} {te : TE} {vs : List Nat} {p : Addr} {n n0 : Nat} (cost : Nat) (good : PyData → Prop) (few : n < sizeLine) (hp : PotAt H p n0)
    (step : ∀ i H' (N : VK), i < n → Gr p H H' → PotAt H' p (n0 + i * cost) → (∀ y d H4, Gr p H' H4 → PotAt H4 p (n0 + i * cost + cost) → Fd K H' H4 y d → good d → N y H4) → g (.int (i : Nat)) (wipe σ vs) H' fun σ2 H2 => wipe σ2 vs = wipe σ vs ∧ te σ2 H2 N)
    (hd : ∀ D H' ys ds, H D = none → Gr p H H' → H' D = some (.lst ys) → PotAt H' p (n0 + n * cost) → ds.length = n → FdAll K H H' ys ds → (∀ d ∈ ds, good d) → Q (.ref D) H') : LcRng g tYes te vs σ Q [.int (n : Int)] H := by
  refine lcAny (walk_range (lo := 0) (n := n)) (fun R r => ⟨(n : Int), rfl, by omega, by rw [sizeLine_eq] at few; omega, by rw [Int.toNat_natCast]; exact r⟩)
    (fun D i H' => Gr p H H' ∧ PotAt H' p (n0 + i * cost) ∧ ∃ ys ds, H' D = some (.lst ys) ∧ ys.length = i ∧ FdAll K (upd H D (.lst [])) H' ys ds ∧ ∀ d ∈ ds, good d) ?_ (fun _ _ _ _ _ => trivial) ?_ ?_
  · intro D nD
    have s : Same H (upd H D (.lst [])) := Same.put (Same.refl H) nD
    exact ⟨Gr.of s, by rw [Nat.zero_mul]; exact hp.same s, [], [], upd_same, rfl, .nil, fun _ z => nomatch z⟩
  · rintro D nD i x H1 H' hi ⟨gr, pt, ys, ds, e, l, F, gd⟩ y
    obtain ⟨rfl, rfl⟩ := y
    have pD : p ≠ D := fun z => hp.ne (z ▸ nD)
    have hpD : upd H D (.lst []) p ≠ none := by rw [upd_ne pD]; exact hp.ne
    have hDD : upd H D (.lst []) D ≠ none := by rw [upd_same]; exact fun z => nomatch z
    unfold lcTurn
    show g (.int (0 + (i : Int))) _ _ _
    rw [Int.zero_add]
    refine step i _ _ hi gr pt fun v d H4 g4 p4 f4 gd4 => ?_
    have e4 : H4 D = some (.lst ys) := g4.keep D _ (Ne.symm pD) e
    have k5 : Keep (fun b => b = p ∨ b = D) H' (upd H4 D (.lst (ys ++ [v]))) := fun b o nb q => by
      rw [upd_ne fun z => nb (.inr z)]
      exact g4.keep b o (fun z => nb (.inl z)) q
    have k45 : Keep (fun b => b = p ∨ b = D) H4 (upd H4 D (.lst (ys ++ [v]))) := fun b o nb q => by
      rw [upd_ne fun z => nb (.inr z)]
      exact q
    have e5 : upd H4 D (.lst (ys ++ [v])) p = H4 p := upd_ne pD
    have g14 := gr.trans g4
    have ar : n0 + i * cost + cost = n0 + (i + 1) * cost := by rw [Nat.succ_mul]; omega
    refine ⟨ys, e4, by rw [l]; omega, ⟨fun b o nb q => ?_, fun z => by rw [e5]; exact g14.ne z⟩, ?_, ys ++ [v], ds ++ [d], upd_same, by simp [l], (F.later2 hpD hDD k5).snoc ((f4.weak fun b z => ?_).later2 hpD hDD k45), fun x m => ?_⟩
    · rw [upd_ne (ne_of_none q nD)]
      exact g14.keep b o nb q
    · obtain ⟨a, b, c, q, h⟩ := p4
      rw [ar] at h
      exact ⟨a, b, c, by rw [e5]; exact q, h⟩
    · by_cases c : b = D
      · rw [c, e]; exact fun z => nomatch z
      · rw [upd_ne c] at z
        exact gr.dom b z
    · rcases List.mem_append.mp m with m | m
      · exact gd x m
      · rw [List.mem_singleton.mp m]; exact gd4
  · rintro D nD H' ⟨gr, pt, ys, ds, e, l, F, gd⟩
    refine hd D H' ys ds nD gr e pt (by rw [← F.len]; exact l) (F.weak fun b z => ?_) gd
    by_cases c : b = D
    · rw [c, upd_same]; exact fun z => nomatch z
    · rw [upd_ne c]; exact z
theorem max0 (x : Int) : 0 ≤ (if x > 0 then x else 0) := by split <;> omega
theorem ints_at {ns : List Int} {k : Nat} (h : k < ns.length) : (ns.map V.int)[k]? = some (.int ns[k]) := by simp [h]
/-- one of some texts, picked -/
theorem ix_pick {K : PySem.W.Frag} {H : Hp} {Q : VK} {l : Addr} {zs : List Str} {r : Int} (h : SqL K H l (zs.map V.str)) (r0 : 0 ≤ r) (r1 : r < zs.length) (q : ∀ z ∈ zs, Q (.str z) H) : rIxU K (.ref l) (.int r) H Q := by
  obtain ⟨i, rfl⟩ := Int.eq_ofNat_of_zero_le r0
  have hi : i < zs.length := by omega
  exact ix_l h (atI_nat (v := V.str zs[i]) (by simp [hi])) (q _ (List.getElem_mem _))
theorem ix_pickT {K : PySem.W.Frag} {H : Hp} {Q : VK} {l : Addr} {zs : List Str} {r : Int} (h : SqT K H l (zs.map V.str)) (r0 : 0 ≤ r) (r1 : r < zs.length) (q : ∀ z ∈ zs, Q (.str z) H) : rIxU K (.ref l) (.int r) H Q := by
  obtain ⟨i, rfl⟩ := Int.eq_ofNat_of_zero_le r0
  have hi : i < zs.length := by omega
  exact ix_t h (atI_nat (v := V.str zs[i]) (by simp [hi])) (q _ (List.getElem_mem _))
/-- a sign of a written text -/
theorem ix_sign {K : PySem.W.Frag} {H : Hp} {Q : VK} {z : Str} {r : Int} (r0 : 0 ≤ r) (r1 : r < z.cps.toList.length) (l : z.length ≤ sizeLine) (q : ∀ c ∈ z.cps.toList, Q (.str ⟨#[c]⟩) H) : rIxU K (.str z) (.int r) H Q := by
  obtain ⟨i, rfl⟩ := Int.eq_ofNat_of_zero_le r0
  have hi : i < z.cps.toList.length := by omega
  exact .inr ⟨z, _, _, rfl, rfl, l, atI_nat (List.getElem?_eq_getElem hi), q _ (List.getElem_mem _)⟩
/-- two lists put together -/
theorem cat_l {K : PySem.W.Frag} {H : Hp} {Q : VK} {l b : Addr} {xs zs : List V} (h1 : H l = some (.lst xs)) (h2 : H b = some (.lst zs)) (n : xs.length + zs.length ≤ 1000) (q : ∀ p, H p = none → Q (.ref p) (upd H p (.lst (xs ++ zs)))) : rAddU K (.ref l) (.ref b) H Q :=
  .inr (.inl ⟨l, b, xs, zs, rfl, rfl, h1, h2, by rw [sizeLine_eq]; omega, q⟩)
/-- a new thing -/
theorem lay_new {H : Hp} {o : HO} {R : Addr → Prop} (q : ∀ p H', H' = upd H p o → Same H H' → H p = none → H' p = some o → R p) : ∀ p, H p = none → R p := fun p n => q p _ rfl (Same.put (Same.refl H) n) n upd_same
def sign (c : Nat) : Str := ⟨#[c]⟩
theorem joinL_signs : ∀ cs : List Nat, TL.joinL [] (cs.map fun c => [c]) = cs
  | [] => rfl
  | [c] => rfl
  | c :: d :: r => by
    have ih := joinL_signs (d :: r)
    show [c] ++ ([] ++ TL.joinL [] ((d :: r).map fun c => [c])) = _
    rw [ih]
    rfl
theorem join_signs (cs : List Nat) : (Txt.join "" (cs.map sign)).cps.toList = cs := by
  rw [TL.join_eq]
  refine (TL.tl_join "" (cs.map sign)).trans ?_
  rw [List.map_map]
  exact joinL_signs cs
def isSign (d : PyData) : Prop := ∃ c ∈ lettersS.cps.toList, d = .str (sign c)
theorem signs_of {K : PySem.W.Frag} {H H1 : Hp} {ys : List V} {ds : List PyData} (h : FdAll K H H1 ys ds) (g : ∀ d ∈ ds, isSign d) : ∃ cs : List Nat, ys = (cs.map sign).map V.str ∧ cs.length = ds.length ∧ ∀ c ∈ cs, c ∈ lettersS.cps.toList := by
  induction h with
  | nil => exact ⟨[], rfl, rfl, fun _ z => nomatch z⟩
  | cons h _ ih =>
    obtain ⟨cs, e, l, m⟩ := ih fun d hd => g d (List.mem_cons_of_mem _ hd)
    obtain ⟨c, hc, rfl⟩ := g _ List.mem_cons_self
    cases dp_str h.dp
    refine ⟨c :: cs, by rw [e]; rfl, by simp [l], fun x hx => ?_⟩
    rcases List.mem_cons.mp hx with rfl | hx
    · exact hc
    · exact m x hx
theorem name_of {cs : List Nat} (l1 : 1 ≤ cs.length) (l8 : cs.length ≤ 8) (m : ∀ c ∈ cs, c ∈ lettersS.cps.toList) : isNameS (Txt.join "" (cs.map sign)) = true := by
  have e := join_signs cs
  have el : (Txt.join "" (cs.map sign)).length = cs.length := by
    show (Txt.join "" (cs.map sign)).cps.size = _
    rw [← Array.length_toList, e]
  unfold isNameS
  rw [e, el]
  simp only [Bool.and_eq_true, decide_eq_true_eq, List.all_eq_true]
  exact ⟨⟨l1, l8⟩, m⟩
theorem sum_signs (cs : List Nat) : ((cs.map sign).map (·.length)).sum = cs.length := by
  induction cs with
  | nil => rfl
  | cons c r ih =>
    rw [List.map_cons, List.map_cons, List.sum_cons, ih]
    show 1 + r.length = r.length + 1
    omega
theorem letters26 {r : Int} (h : r < 26) : r < ((lettersS.cps.toList.length : Nat) : Int) := by
  have e : lettersS.cps.toList.length = 26 := by decide +kernel
  omega
section
variable {K : PySem.W.Frag} {H : Hp} {Q : VK} {σ : L2.St} {a p : Addr} {xs : List V} {tl : TE} {g : TG} {tb : TS} {D : Ends} {tt : TT} {te : TE} {vs : List Nat}
theorem sqT_gr {H' : Hp} {n : Nat} (h : SqT K H a xs) (pt : PotAt H p n) (g : Gr p H H') : SqT K H' a xs := by
  obtain ⟨x, y, z, e, _⟩ := pt
  rcases h with (h | ⟨o, h⟩) | h
  · exact .inl (.inl (g.keep _ _ (fun c => by rw [c, e] at h; cases h) h))
  · exact .inl (.inr ⟨o, g.keep _ _ (fun c => by rw [c, e] at h; cases h) h⟩)
  · exact .inr h
/-- a loop over range, its count come -/
def RngIn (g : TG) (tb : TS) (D : Ends) (σ : L2.St) (ws : List V) (H : Hp) : Prop := tFor (iRng1 fun _ H Q => Q ws H) g tb D σ H
theorem tFor_rng {ta : TA} : tFor (iRng1 ta) g tb D σ H = ta σ H (RngIn g tb D σ) := rfl
theorem forR {n : Nat} (few : n < sizeLine) (Pv : Nat → L2.St → Hp → Prop) (h0 : Pv 0 σ H)
    (step : ∀ i σ H, i < n → Pv i σ H → g (.int (i : Nat)) σ H fun σ2 H2 => tb { D with nx := Pv (i + 1), ct := Pv (i + 1), bk := D.nx } σ2 H2) (hd : ∀ σ H, Pv n σ H → D.nx σ H) : RngIn g tb D σ [.int (n : Int)] H :=
  ⟨(n : Int), rfl, by omega, by rw [sizeLine_eq] at few; omega, by
    rw [Int.toNat_natCast]
    exact for_it (walk_range (lo := 0) (n := n)) Pv h0 (fun _ _ _ _ _ => trivial) (fun i x σ H H' hi p y => by
      obtain ⟨rfl, rfl⟩ := y
      show g (.int (0 + (i : Int))) _ _ _
      rw [Int.zero_add]
      exact step i σ _ hi p) hd⟩
/-- a comprehension over a list, the list come -/
def LcSeqL (K : PySem.W.Frag) (g : TG) (tt : TT) (te : TE) (vs : List Nat) (σ : L2.St) (Q : VK) (x : V) (H : Hp) : Prop := iList K (fun _ H Q => Q x H) σ H fun J H1 => LcIn J g tt te vs σ Q H1
theorem lc_l (h : tl σ H (LcSeqL K g tt te vs σ Q)) : tLc (fun σ H R => iList K tl σ H R ∨ iTup K tl σ H R ∨ iStr tl σ H R) g tt te vs σ H Q := .inl h
/-- a comprehension over a list, with a test: what F tells -/
theorem lcLf (hs : ∀ H', Same H H' → SqL K H' a xs) (few : xs.length < sizeLine) (F : Nat → List V) (h0 : F 0 = []) (fl : ∀ i, (F i).length ≤ i)
    (step : ∀ i x H' (N : Bool → V → Hp → Prop), xs[i]? = some x → Same H H' →
      (∀ H4, Same H' H4 → F (i + 1) = F i → N false .non H4) → (∀ y H4, Same H' H4 → F (i + 1) = F i ++ [y] → N true y H4) →
      g x (wipe σ vs) H' fun σ2 H2 => wipe σ2 vs = wipe σ vs ∧ tt σ2 H2 fun b H3 => if b = true then te σ2 H3 fun y H4 => N true y H4 else N false .non H3)
    (hd : ∀ D H', H D = none → Same H H' → H' D = some (.lst (F xs.length)) → Q (.ref D) H') :
    LcSeqL K g tt te vs σ Q (.ref a) H := by
  refine ⟨a, rfl, ⟨xs, hs H (Same.refl H)⟩, ?_⟩
  refine lcAnyIn walk_list (fun D i H' => Same H H' ∧ H' D = some (.lst (F i))) (fun D nD => ⟨(Same.put (Same.refl H) nD), by rw [h0]; exact upd_same⟩) (fun D i H' _ q => hs H' q.1) ?_ ?_
  · rintro D nD i x H0 H1 hi ⟨k1, e1⟩ y
    obtain ⟨rfl, hx⟩ := y
    have l := fl i
    have := step i x H1 (fun b y H4 => if b = true then (∃ acc, H4 D = some (.lst acc) ∧ acc.length < sizeLine ∧ (Same H (upd H4 D (.lst (acc ++ [y]))) ∧ upd H4 D (.lst (acc ++ [y])) D = some (.lst (F (i + 1))))) else (Same H H4 ∧ H4 D = some (.lst (F (i + 1))))) hx k1 ?_ ?_
    · exact this
    · intro H4 k4 e
      exact ⟨k1.trans k4, by rw [e]; exact k4 _ _ e1⟩
    · intro y H4 k4 e
      refine ⟨F i, k4 _ _ e1, by omega, fun b o q => ?_, by rw [e]; exact upd_same⟩
      rw [upd_ne (ne_of_none q nD)]
      exact k4 _ _ (k1 _ _ q)
  · rintro D nD H' ⟨k, e⟩
    exact hd D H' nD k e
end
/-- the names that are left -/
theorem nodup_le : ∀ {l zs : List Str}, l.Nodup → (∀ z ∈ l, z ∈ zs) → l.length ≤ zs.length
  | [], _, _, _ => Nat.zero_le _
  | x :: l, zs, hn, hs => by
    obtain ⟨h1, h2⟩ := List.nodup_cons.mp hn
    have hx := hs x List.mem_cons_self
    have := nodup_le (l := l) (zs := zs.erase x) h2 fun z hz => (List.mem_erase_of_ne fun e => h1 (by rw [← e]; exact hz)).mpr (hs z (List.mem_cons_of_mem _ hz))
    rw [List.length_erase_of_mem hx] at this
    have := List.length_pos_of_mem hx
    simp only [List.length_cons]
    omega
def spares : List Str := ["a", "b", "c", "d"]
theorem spare_left {zs : List Str} (h : zs.length ≤ 3) : ∃ z r, spares.filter (fun z => !zs.any fun y => y == z) = z :: r ∧ isNameS z = true ∧ z ∉ zs := by
  cases e : spares.filter (fun z => !zs.any fun y => y == z) with
  | nil =>
    have : ∀ z ∈ spares, z ∈ zs := fun z hz => by
      have := List.filter_eq_nil_iff.mp e z hz
      simp only [Bool.not_eq_true, Bool.not_eq_false', List.any_eq_true, beq_iff_eq] at this
      obtain ⟨y, hy, rfl⟩ := this
      exact hy
    have := nodup_le (by decide +kernel : spares.Nodup) this
    have e4 : spares.length = 4 := rfl
    omega
  | cons z r =>
    have hz : z ∈ spares.filter (fun z => !zs.any fun y => y == z) := by rw [e]; exact List.mem_cons_self
    obtain ⟨h1, h2⟩ := List.mem_filter.mp hz
    refine ⟨z, r, rfl, (by decide +kernel : ∀ z ∈ spares, isNameS z = true) z h1, fun hm => ?_⟩
    simp only [Bool.not_eq_true', List.any_eq_false, beq_iff_eq] at h2
    exact h2 z hm rfl
theorem fd_strs {K : PySem.W.Frag} {H H1 : Hp} : ∀ zs : List Str, FdAll K H H1 (zs.map V.str) (zs.map PyData.str)
  | [] => .nil
  | z :: r => .cons (.str z) (fd_strs r)
theorem filter_more {zs : List Str} {i : Nat} {s : Str} {xs : List Str} (h : xs[i]? = some s) : ((xs.take (i + 1)).filter (fun z => !zs.any fun y => y == z)).map V.str = ((xs.take i).filter (fun z => !zs.any fun y => y == z)).map V.str ++ (if zs.any (fun y => y == s) = true then [] else [V.str s]) := by
  rw [List.take_succ, h, List.filter_append, List.map_append]
  congr 1
  by_cases c : zs.any (fun y => y == s) = true
  · simp [c]
  · rw [Bool.not_eq_true] at c
    simp [c]
/-! ### drawn tests, actions, rules -/
theorem word_mem {ws : List Str} {z : Str} (h : z ∈ ws) : isWordD ws (.str z) = true := by
  unfold isWordD
  rw [List.any_eq_true]
  exact ⟨z, h, by simp⟩
theorem ft_status {dsk : List Str} {z : Str} {b : Bool} (h : z ∈ statusesS) : hasForm testForms dsk (.tuple [.str "status", .str z, .bool b]) = true := by
  have e : hasForm testForms dsk (.tuple [.str "status", .str z, .bool b]) = (isWordD statusesS (.str z) && (true && true)) := rfl
  rw [e, word_mem h]
  rfl
theorem ft_desk {dsk : List Str} {z : Str} {b : Bool} (h : z ∈ dsk) : hasForm testForms dsk (.tuple [.str "desk", .str z, .bool b]) = true := by
  have e : hasForm testForms dsk (.tuple [.str "desk", .str z, .bool b]) = (isWordD dsk (.str z) && (true && true)) := rfl
  rw [e, word_mem h]
  rfl
theorem ft_days {dsk : List Str} {n : Int} (h : 1 ≤ n) (g : n ≤ 30) : hasForm testForms dsk (.tuple [.str "days", .int n]) = true := by
  have e : hasForm testForms dsk (.tuple [.str "days", .int n]) = ((decide (1 ≤ n) && decide (n ≤ 30)) && true) := rfl
  rw [e, decide_eq_true h, decide_eq_true g]
  rfl
theorem ft_answered {dsk : List Str} {b : Bool} : hasForm testForms dsk (.tuple [.str "answered", .bool b]) = true := rfl
theorem ft_marked {dsk : List Str} {b : Bool} : hasForm testForms dsk (.tuple [.str "marked", .bool b]) = true := rfl
theorem fa_status {dsk : List Str} {z : Str} (h : z ∈ statusesS) : hasForm actionForms dsk (.tuple [.str "status", .str z]) = true := by
  have e : hasForm actionForms dsk (.tuple [.str "status", .str z]) = (isWordD statusesS (.str z) && true) := rfl
  rw [e, word_mem h]
  rfl
theorem fa_desk {dsk : List Str} {z : Str} (h : z ∈ dsk) : hasForm actionForms dsk (.tuple [.str "desk", .str z]) = true := by
  have e : hasForm actionForms dsk (.tuple [.str "desk", .str z]) = (isWordD dsk (.str z) && true) := rfl
  rw [e, word_mem h]
  rfl
theorem fa_mark {dsk : List Str} {b : Bool} : hasForm actionForms dsk (.tuple [.str "mark", .bool b]) = true := rfl
theorem fa_reply {dsk : List Str} : hasForm actionForms dsk (.tuple [.str "reply"]) = true := rfl
theorem fa_stop {dsk : List Str} : hasForm actionForms dsk (.tuple [.str "stop"]) = true := rfl
/-- a thing drawn with desks: cost draws -/
def spDraw (K : PySem.W.Frag) (cost : Nat) (good : List Str → PyData → Prop) : Sp := fun vs H Q _ => ∃ (p a : Addr) (n : Nat) (dsk : List Str), vs = [.ref p, .ref a] ∧ PotAt H p n ∧ n + cost < 2 ^ 60 ∧ SqT K H a (dsk.map V.str) ∧ 1 ≤ dsk.length ∧ dsk.length ≤ 4 ∧
  ∀ v d H', good dsk d → Fd K H H' v d → Gr p H H' → PotAt H' p (n + cost) → Q v H'
/-! ### unions that stay folded; parts of tuples -/
def rOr (r r' : R2) : R2 := fun x y H Q => r x y H Q ∨ r' x y H Q
theorem opOr {X : Cx} {f : Value → Value → Sem Value} {r r' : R2} (h : OpR X f r) (h' : OpR X f r') : OpR X f (rOr r r') := h.or h'
def rOrC (r r' : List V → Hp → VK → Prop) : List V → Hp → VK → Prop := fun xs H Q => r xs H Q ∨ r' xs H Q
theorem callOr {X : Cx} {f : Value} {r r' : List V → Hp → VK → Prop} (h : CallR X f r) (h' : CallR X f r') : CallR X f (rOrC r r') := h.or h'
def cutD (r : List PyData) (lo hi : Option Int) : List PyData := (r.drop (HT.sIx r.length 0 lo)).take (HT.sIx r.length r.length hi - HT.sIx r.length 0 lo)
theorem cutD_to {r : List PyData} {k : Nat} (h : k ≤ r.length) : cutD r none (some (k : Int)) = r.take k := by
  unfold cutD
  rw [HT.sIx_none, HT.sIx_nat, List.drop_zero, Nat.sub_zero, Nat.min_eq_left h]
theorem cutD_from {r : List PyData} {k : Nat} (h : k ≤ r.length) : cutD r (some (k : Int)) none = r.drop k := by
  unfold cutD
  rw [HT.sIx_none, HT.sIx_nat, Nat.min_eq_left h, List.take_of_length_le (by rw [List.length_drop]; omega)]
theorem dps_cut {K : PySem.W.Frag} {H : Hp} {xs : List V} {r : List PyData} (h : DpAll K H xs r) (lo hi : Option Int) : DpAll K H (cutV xs lo hi) (cutD r lo hi) := by
  unfold cutV cutD
  rw [dps_len h]
  exact dps_take _ (dps_drop _ h)
theorem sl_dp {K : PySem.W.Frag} {H : Hp} {Q : VK} {x : V} {r : List PyData} {lo hi : Option Int} (h : Dp K H x (.tuple r)) (q : ∀ v H', Same H H' → Dp K H' v (.tuple (cutD r lo hi)) → Q v H') : rSlU K x lo hi H Q := by
  obtain ⟨a, xs, rfl, sx, dx⟩ := dp_tup h
  refine .inr (.inl ⟨a, xs, rfl, sx, fun z => ?_, fun _ p n => ?_⟩)
  · refine q _ _ (Same.refl H) ?_
    have e : cutD r lo hi = r := by
      unfold cutD
      rw [← dps_len dx, z.1, z.2, List.drop_zero, Nat.sub_zero, dps_len dx, List.take_length]
    rw [e]
    exact h
  · have k : Same H (upd H p (.tup (cutV xs lo hi))) := Same.put (Same.refl H) n
    exact q _ _ k (.tup (.inl (.inl upd_same)) (dpsSame k (dps_cut dx lo hi)))
/-- a comprehension over range, with a test: what F tells -/
theorem lcRf {K : PySem.W.Frag} {H : Hp} {Q : VK} {σ : L2.St} {g : TG} {tt : TT} {te : TE} {vs : List Nat} {n : Nat} (few : n < sizeLine) (F : Nat → List V) (h0 : F 0 = []) (fl : ∀ i, (F i).length ≤ i)
    (step : ∀ i H' (N : Bool → V → Hp → Prop), i < n → Same H H' →
      (∀ H4, Same H' H4 → F (i + 1) = F i → N false .non H4) → (∀ y H4, Same H' H4 → F (i + 1) = F i ++ [y] → N true y H4) →
      g (.int (i : Nat)) (wipe σ vs) H' fun σ2 H2 => wipe σ2 vs = wipe σ vs ∧ tt σ2 H2 fun b H3 => if b = true then te σ2 H3 fun y H4 => N true y H4 else N false .non H3)
    (hd : ∀ D H', H D = none → Same H H' → H' D = some (.lst (F n)) → Q (.ref D) H') : LcRng g tt te vs σ Q [.int (n : Int)] H := by
  refine lcAny (walk_range (lo := 0) (n := n)) (fun R r => ⟨(n : Int), rfl, by omega, by rw [sizeLine_eq] at few; omega, by rw [Int.toNat_natCast]; exact r⟩)
    (fun D i H' => Same H H' ∧ H' D = some (.lst (F i))) (fun D nD => ⟨(Same.put (Same.refl H) nD), by rw [h0]; exact upd_same⟩) (fun _ _ _ _ _ => trivial) ?_ ?_
  · rintro D nD i x H1 H' hi ⟨k1, e1⟩ y
    obtain ⟨rfl, rfl⟩ := y
    unfold lcTurn
    show g (.int (0 + (i : Int))) _ _ _
    rw [Int.zero_add]
    have l := fl i
    refine step i _ (fun b y H4 => if b = true then (∃ acc, H4 D = some (.lst acc) ∧ acc.length < sizeLine ∧ (Same H (upd H4 D (.lst (acc ++ [y]))) ∧ upd H4 D (.lst (acc ++ [y])) D = some (.lst (F (i + 1))))) else (Same H H4 ∧ H4 D = some (.lst (F (i + 1))))) hi k1 ?_ ?_
    · intro H4 k4 e
      exact ⟨k1.trans k4, by rw [e]; exact k4 _ _ e1⟩
    · intro y H4 k4 e
      refine ⟨F i, k4 _ _ e1, by omega, fun b o q => ?_, by rw [e]; exact upd_same⟩
      rw [upd_ne (ne_of_none q nD)]
      exact k4 _ _ (k1 _ _ q)
  · rintro D nD H' ⟨k, e⟩
    exact hd D H' nD k e
/-- isinstance(x, (tuple, list)) -/
theorem isiT_dp {K : PySem.W.Frag} {H : Hp} {v : V} {d : PyData} {p : Addr} {Q : VK} (e : H p = some (.tup [.ty "tuple", .ty "list"])) (h : Dp K H v d) (q : Q (.bl (isD "tuple" d || isD "list" d)) H) : rIsiT K [v, .ref p] H Q := by
  refine ⟨v, p, _, .type (tyD d), [.type "tuple", .type "list"], _, rfl, e, .cons (.ty _) (.cons (.ty _) .nil), tyx h, ?_, q⟩
  refine kitAny_cons (kit_ty (kitD _ (dp_kind h) "tuple" (by decide))) (fun hb => ?_) (fun hb => ?_)
  · refine kitAny_cons (kit_ty (kitD _ (dp_kind h) "list" (by decide))) (r := isD "tuple" d || isD "list" d) (b := isD "list" d) (fun hb2 => ?_) (fun hb2 => ?_)
    · have h1 : isD "tuple" d = false := hb
      rw [h1, hb2]
      rfl
    · rw [hb2, Bool.or_true]
  · have h1 : isD "tuple" d = true := hb
    rw [h1, Bool.true_or]
def leafD : PyData → Bool
  | .none | .bool _ | .int _ | .str _ => true
  | _ => false
/-- data that is not deeper than n, nor wide -/
def okAl : Nat → PyData → Prop
  | 0, d => leafD d = true
  | n + 1, .tuple ds => ds.length ≤ 1000 ∧ ∀ e ∈ ds, okAl n e
  | n + 1, .list ds => ds.length ≤ 1000 ∧ ∀ e ∈ ds, okAl n e
  | _ + 1, d => leafD d = true
theorem leaf_eq {K : PySem.W.Frag} {H : Hp} {Q : VK} {x y : V} {d : PyData} (hx : Dp K H x d) (hy : Dp K H y d) (l : leafD d = true) (q : Q (.bl true) H) : rEqU K x y H Q := by
  have e : x = y := by
    cases hx <;> first | exact Bool.noConfusion l | (cases hy; rfl)
  subst e
  unfold rEqU
  by_cases c : scal x x = true
  · rw [if_pos c, decide_eq_true rfl]
    exact q
  · rw [if_neg c]
    refine ⟨d, d, hx, hx, ?_, ?_, ?_⟩
    all_goals (cases hx <;> first | exact Bool.noConfusion l | rfl | (exact absurd rfl c) | skip)
    all_goals first | exact q | skip
/-- data of tuples alone -/
def tpD : Nat → PyData → Prop
  | 0, d => leafD d = true
  | n + 1, .tuple ds => ∀ e ∈ ds, tpD n e
  | _ + 1, d => leafD d = true
theorem dps_map {K : PySem.W.Frag} {H H' : Hp} : ∀ {xs : List V} {ds : List PyData}, DpAll K H xs ds → (∀ v d, d ∈ ds → Dp K H v d → Dp K H' v d) → DpAll K H' xs ds
  | _, _, .nil, _ => .nil
  | _, _, .cons h t, f => .cons (f _ _ List.mem_cons_self h) (dps_map t fun v d m => f v d (List.mem_cons_of_mem _ m))
theorem dp_leaf {K : PySem.W.Frag} {H H' : Hp} {v : V} {d : PyData} (l : leafD d = true) (h : Dp K H v d) : Dp K H' v d := by
  cases h <;> first | exact Bool.noConfusion l | exact .non | exact .bl _ | exact .int _ | exact .str _
theorem dp_gr {K : PySem.W.Frag} {H H' : Hp} {p : Addr} {k : Nat} (pt : PotAt H p k) (g : Gr p H H') : ∀ (n : Nat) {v : V} {d : PyData}, tpD n d → Dp K H v d → Dp K H' v d
  | 0, _, _, t, h => dp_leaf t h
  | n + 1, v, .tuple ds, t, h => by
    obtain ⟨a, xs, rfl, s, dx⟩ := dp_tup h
    exact .tup (sqT_gr s pt g) (dps_map dx fun v d m h => dp_gr pt g n (t d m) h)
  | n + 1, v, .list ds, t, h => dp_leaf t h
  | n + 1, v, .none, t, h => dp_leaf t h
  | n + 1, v, .bool _, t, h => dp_leaf t h
  | n + 1, v, .int _, t, h => dp_leaf t h
  | n + 1, v, .str _, t, h => dp_leaf t h
  | n + 1, v, .dict _, t, h => dp_leaf t h
theorem kRev {X : Cx} {K : PySem.W.Frag} {e : Expr} {te : TE} {k : Nat} {p1 p2 p3 pos : Pos} (he : PE X e te) (hK : X.K = K := by rfl) : PE X (.Subscript e (.Slice none none (some (.UnaryOp .USub (.Constant (.int 1) k p1) p2)) p3) pos) (tRevL K te) := hK ▸ pe_revL he
/-- a loop over a tuple, the tuple come -/
def ForT (K : PySem.W.Frag) (g : TG) (tb : TS) (D : Ends) (σ : L2.St) (x : V) (H : Hp) : Prop := iTup K (fun _ H Q => Q x H) σ H fun J H1 => ∃ W : Nat → Nat → L2.St → Hp → Prop, (∃ m, W 0 m σ H1) ∧ ∀ i m σ H, W i m σ H →
  (J.stop i H ∧ D.nx σ H) ∨ (J.go i H ∧ ∃ N : L2.St → Hp → Prop, (∀ σ' H', N σ' H' → ∃ m', m' < m ∧ W (i + 1) m' σ' H') ∧ ∀ x H', J.yld i H x H' → g x σ H' fun σ2 H2 => tb { D with nx := N, ct := N, bk := D.nx } σ2 H2)
theorem for_t {K : PySem.W.Frag} {tl : TE} {g : TG} {tb : TS} {D : Ends} {σ : L2.St} {H : Hp} (h : tl σ H (ForT K g tb D σ)) : tFor (fun σ H R => iList K tl σ H R ∨ iTup K tl σ H R ∨ iStr tl σ H R) g tb D σ H := .inr (.inl h)
theorem forTx {K : PySem.W.Frag} {g : TG} {tb : TS} {D : Ends} {σ : L2.St} {H : Hp} {a : Addr} {xs : List V} (hs : SqT K H a xs) (Pv : Nat → L2.St → Hp → Prop) (h0 : Pv 0 σ H) (hG : ∀ i σ H, i ≤ xs.length → Pv i σ H → SqT K H a xs)
    (step : ∀ i x σ H, xs[i]? = some x → Pv i σ H → g x σ H fun σ2 H2 => tb { D with nx := Pv (i + 1), ct := Pv (i + 1), bk := D.nx } σ2 H2) (hd : ∀ σ H, Pv xs.length σ H → D.nx σ H) : ForT K g tb D σ (.ref a) H :=
  ⟨a, rfl, ⟨xs, hs⟩, for_it walk_tup Pv h0 hG (fun i x σ H H' _ p y => by
    obtain ⟨rfl, e⟩ := y
    exact step i x σ _ e p) hd⟩
end Ld

set_option Elab.async false
set_option linter.all false
set_option maxRecDepth 100000
set_option maxHeartbeats 2000000
/-! More of lists: parts, values that stand while others change. -/
namespace Ld
open PySem PySem.Spec PyProof.Rows L2
theorem sl_l {K : PySem.W.Frag} {H : Hp} {Q : VK} {l : Addr} {xs : List V} {lo hi : Option Int} (h : SqL K H l xs) (q : ∀ p, H p = none → Q (.ref p) (upd H p (.lst (cutV xs lo hi)))) : rSlU K (.ref l) lo hi H Q := .inl ⟨l, xs, rfl, h, q⟩
theorem cutV_to {xs : List V} {k : Nat} (h : k ≤ xs.length) : cutV xs none (some (k : Int)) = xs.take k := by
  unfold cutV
  rw [HT.sIx_none, HT.sIx_nat, Nat.min_eq_left h]
  simp
theorem cutV_from {xs : List V} {k : Nat} (h : k ≤ xs.length) : cutV xs (some (k : Int)) none = xs.drop k := by
  unfold cutV
  rw [HT.sIx_none, HT.sIx_nat, Nat.min_eq_left h]
  rw [List.take_of_length_le (by simp)]
theorem FdAll.app {K : PySem.W.Frag} {H H1 : Hp} {vs us : List V} {ds es : List PyData} (h : FdAll K H H1 vs ds) (g : FdAll K H H1 us es) : FdAll K H H1 (vs ++ us) (ds ++ es) := by
  induction h with
  | nil => exact g
  | cons h _ ih => exact .cons h ih
theorem FdAll.ints {K : PySem.W.Frag} {H H1 : Hp} : ∀ ns : List Int, FdAll K H H1 (ns.map V.int) (ns.map PyData.int)
  | [] => .nil
  | n :: r => .cons (.int n) (FdAll.ints r)
theorem FdAll.take {K : PySem.W.Frag} {H H1 : Hp} : ∀ {vs : List V} {ds : List PyData} (k : Nat), FdAll K H H1 vs ds → FdAll K H H1 (vs.take k) (ds.take k)
  | _, _, 0, _ => .nil
  | _, _, _ + 1, .nil => .nil
  | _, _, k + 1, .cons h t => .cons h (FdAll.take k t)
theorem FdAll.drop {K : PySem.W.Frag} {H H1 : Hp} : ∀ {vs : List V} {ds : List PyData} (k : Nat), FdAll K H H1 vs ds → FdAll K H H1 (vs.drop k) (ds.drop k)
  | _, _, 0, h => h
  | _, _, _ + 1, .nil => .nil
  | _, _, k + 1, .cons h t => FdAll.drop k t
theorem FdAll.nth {K : PySem.W.Frag} {H H1 : Hp} : ∀ {vs : List V} {ds : List PyData} {k : Nat} {d : PyData}, FdAll K H H1 vs ds → ds[k]? = some d → ∃ v, vs[k]? = some v ∧ Fd K H H1 v d
  | _, _, 0, _, .cons h t, e => ⟨_, rfl, by cases e; exact h⟩
  | _, _, k + 1, _, .cons h t, e => by
    obtain ⟨v, a, b⟩ := FdAll.nth (k := k) t (by simpa using e)
    exact ⟨v, by simpa using a, b⟩
theorem FdAll.dps {K : PySem.W.Frag} {H H1 : Hp} {vs : List V} {ds : List PyData} (h : FdAll K H H1 vs ds) : DpAll K H1 vs ds := h.get (fun _ => False) H1 (fun _ z => z.elim) (Keep.refl H1)
theorem FdAll.mk {K : PySem.W.Frag} {H H1 H2 : Hp} {vs : List V} {ds : List PyData} {p : Addr} (h : FdAll K H H1 vs ds) (hp : H p ≠ none) (g : Gr p H1 H2) : FdAll K H H2 vs ds := h.later hp g
/-- what is no tuple -/
theorem isi_no {K : PySem.W.Frag} {H : Hp} {x : V} {t : Value} {Q : VK} (ht : TyX K H x t) (hk : PySem.W.kitOne K t (.type "tuple") = some false) (q : Q (.bl false) H) : rIsi K [x, .ty "tuple"] H Q := ⟨x, .ty "tuple", t, .type "tuple", false, rfl, .ty _, ht, hk, q⟩
theorem eraseIdx_ints (ns : List Int) (k : Nat) : (ns.map V.int).eraseIdx k = (ns.eraseIdx k).map V.int := by
  induction ns generalizing k with
  | nil => simp
  | cons n r ih => cases k with
    | zero => simp
    | succ k => simp [ih]
theorem seqIndex_nat {k n : Nat} (h : k < n) : seqIndex? (k : Int) n = some k := by
  unfold seqIndex?
  simp
  omega
/-- what comes behind a choice, proved once -/
theorem if_both {c : Prop} [Decidable c] {A B : Prop} {C Cond : V → Hp → Prop} (hb : (∀ v H, Cond v H → C v H) → B) (ha : (∀ v H, Cond v H → C v H) → A) (main : ∀ v H, Cond v H → C v H) : if c then A else B := by
  split
  · exact ha main
  · exact hb main
theorem cutD_take {r : List PyData} {k : Nat} : cutD r none (some (k : Int)) = r.take k := by
  unfold cutD
  rw [HT.sIx_none, HT.sIx_nat]
  simp
theorem dpa_strs {K : PySem.W.Frag} {H : Hp} : ∀ ws : List Str, DpAll K H (ws.map V.str) (ws.map PyData.str)
  | [] => .nil
  | z :: r => .cons (.str z) (dpa_strs r)
/-- the rows within a for -/
def forBody : Stmt → List Stmt
  | .For _ _ b _ _ => b
  | _ => []
def rowsIn (l : List Stmt) (i : Nat) : List Stmt := (l[i]?).elim [] forBody
end Ld

set_option Elab.async false
set_option linter.all false
set_option maxRecDepth 100000
set_option maxHeartbeats 2000000
/-! A tuple turned about: t[::-1]. -/
namespace Ld
open PySem PySem.Spec PyProof.Rows L2
theorem fm_congr {α β : Type} {f g : α → Option β} : ∀ {l : List α}, (∀ x ∈ l, f x = g x) → l.filterMap f = l.filterMap g
  | [], _ => rfl
  | x :: r, h => by
    rw [List.filterMap_cons, List.filterMap_cons, h x List.mem_cons_self, fm_congr fun y m => h y (List.mem_cons_of_mem _ m)]
section
variable {prog : Program} {w : World} {A : Around} {E : Value → Shared → Prop} {s : Shared}
theorem back_adjust (n : Nat) : Builtin.Slice.sliceAdjust none none (-1) (n : Int) = ((n : Int) - 1, -1) := by
  unfold Builtin.Slice.sliceAdjust
  simp
theorem back_places (n : Nat) : Builtin.Slice.slicePlaces ((n : Int) - 1) (-1) (-1) = n := by
  unfold Builtin.Slice.slicePlaces
  rw [if_neg (by decide)]
  split
  · rw [show (-(-1) : Int) = 1 by decide, Int.ediv_one]
    omega
  · omega
theorem back_applied {c : Addr} {x y z : Value} {n : Nat} {Q : Int × Int × Nat → Shared → Prop} (hs : s.heap.IsSliceOf c x y z) (px : IsPart x none) (py : IsPart y none) (pz : IsPart z (some (-1))) (h : Q ((n : Int) - 1, -1, n) s) :
    wpAny (model prog w) A (Builtin.Slice.sliceApplied (.ref c) (pure (n : Int))) Q E s := by
  obtain ⟨o, e1, e2, e3⟩ := id hs
  unfold Builtin.Slice.sliceApplied Builtin.Slice.sliceFields
  refine wpAny_bind (wpAny_bind (wpAny_field e1 e3 (x := x) rfl (wpAny_bind (wpAny_field e1 e3 (x := y) rfl (wpAny_bind (wpAny_field e1 e3 (x := z) rfl (wpAny_pure ?_)))))))
  refine wpAny_bind (HT.slicePart_ pz ?_)
  show wpAny _ _ (if ((-1 : Int) == 0) = true then _ else _) _ _ s
  rw [if_neg (by decide)]
  refine wpAny_bind (HT.slicePart_ px (wpAny_bind (HT.slicePart_ py (wpAny_bind (wpAny_pure ?_)))))
  show wpAny _ _ (match Builtin.Slice.sliceAdjust none none (-1) (n : Int) with | (i, j) => pure (i, (-1 : Int), Builtin.Slice.slicePlaces i j (-1))) _ _ s
  rw [back_adjust]
  show wpAny _ _ (pure ((n : Int) - 1, (-1 : Int), Builtin.Slice.slicePlaces ((n : Int) - 1) (-1) (-1))) _ _ s
  rw [back_places]
  exact wpAny_pure h
theorem back_pick (xs : Array Value) : ((List.range xs.size).filterMap fun (m : Nat) => xs[((xs.size : Int) - 1 + (m : Int) * (-1)).toNat]?).toArray = xs.toList.reverse.toArray := by
  congr 1
  have e : (List.range xs.size).filterMap (fun (m : Nat) => xs[((xs.size : Int) - 1 + (m : Int) * (-1)).toNat]?) = (List.range xs.size).filterMap ((fun j => xs[j]?) ∘ fun m => xs.size - 1 - m) := by
    apply fm_congr
    intro m hm
    have hm := List.mem_range.mp hm
    show _ = xs[xs.size - 1 - m]?
    congr 1
    omega
  rw [e, ← List.filterMap_map, PySem.W.krv_range, List.filterMap_reverse, PySem.W.krv_all]
theorem getItem_back {t c : Addr} {xs : Array Value} {x y z : Value} {Q : Value → Shared → Prop} (ht : IsTup s.heap t xs) (hs : s.heap.IsSliceOf c x y z) (px : IsPart x none) (py : IsPart y none) (pz : IsPart z (some (-1))) (fit : xs.size ≤ sizeLine)
    (h : Q (.ref s.heap.objs.size) { s with heap := s.heap.push { cls := .type "tuple", data := .seq xs.toList.reverse.toArray } }) : wpAny (model prog w) A (getItem (.ref t) (.ref c)) Q E s := by
  have okz : sizeOk (.seq xs.toList.reverse.toArray) := (show xs.toList.reverse.toArray.size ≤ sizeLine by simpa using fit)
  obtain ⟨o, e1, e2, _⟩ := id hs
  unfold getItem
  try with_reducible refine wpAny_holding ?_
  first
    | refine wpAny_bind (wpAny_pure ?_)
    | skip
  refine wpAny_bind (wpAny_sequenceKey ht.typeIs (by decide) (wpAny_bind (wpAny_callSpecial?_slot (name := Str.ofString "__getitem__") ht.typeIs slot_tuple_getitem (wpAny_call_entry slot_tuple_getitem ht.typeIs entry_tuple_getitem ?_ (args_tuple_getitem _ _)))))
  show wpAny _ _ (Builtin.Tuple.tupleItemsOf (.ref t) >>= _) _ _ s
  refine wpAny_bind (tupleItemsOf_ ht (wpAny_bind (wpAny_typeOf (show s.TypeIs (.ref c) "slice" from ⟨o, e1, e2⟩) ?_)))
  rw [if_pos (by decide)]
  refine wpAny_bind (back_applied hs px py pz ?_)
  show wpAny _ _ (if (((xs.size : Int) - 1) == 0 && (-1 : Int) == 1 && xs.size == xs.size) = true then _ else _) _ _ s
  rw [if_neg (by rw [show ((-1 : Int) == 1) = false by decide, Bool.and_false, Bool.false_and]; exact Bool.false_ne_true), back_pick]
  first
    | exact wpAny_bind (wpAny_bind (m := Builtin.Tuple.tupleExact _) (wpAny_newObj_type (wpAny_pure (wpAny_pure ⟨_, rfl, wpAny_pure h⟩)) okz))
    | exact wpAny_bind (wpAny_bind (m := Builtin.Tuple.tupleExact _) (wpAny_newObj_type (wpAny_pure ⟨_, rfl, wpAny_pure h⟩) okz))
    | exact wpAny_bind (m := Builtin.Tuple.tupleExact _) (wpAny_newObj_type (wpAny_bind (wpAny_pure (wpAny_pure ⟨_, rfl, wpAny_pure h⟩))) okz)
    | exact wpAny_bind (m := Builtin.Tuple.tupleExact _) (wpAny_newObj_type (wpAny_pure ⟨_, rfl, wpAny_pure h⟩) okz)
end
/-- t[::-1] -/
def tRevT (K : PySem.W.Frag) (te : TE) : TE := fun σ H Q => te σ H fun x H1 => ∃ a xs, x = .ref a ∧ SqT K H1 a xs ∧ ∀ p, H1 p = none → Q (.ref p) (upd H1 p (.tup xs.reverse))
theorem pe_revT {X : Cx} {K : PySem.W.Frag} {e : Expr} {te : TE} {k : Nat} {p1 p2 p3 pos : Pos} (he : PE X e te) (hK : X.K = K := by rfl) : PE X (.Subscript e (.Slice none none (some (.UnaryOp .USub (.Constant (.int 1) k p1) p2)) p3) pos) (tRevT K te) := by
  subst hK
  refine ⟨fun pins s σ H Q I h => Subscript_ (thn (he.run pins s σ H _ I h) fun v s1 ⟨x, H1, I1, r1, a, xs, ex, hx, q⟩ => ?_)⟩
  subst ex
  cases r1
  have step : PO X (some (.UnaryOp .USub (.Constant (.int 1) k p1) p2)) (tPart (tUn (rU fun i => .int (-i)) (tC (.int 1)))) := po_some (pe_un un_neg pe_int)
  refine wpAny_Slice (thn (po_none.run pins s1 σ H1 (fun o G => o = none ∧ G = H1) I1 ⟨rfl, rfl⟩) fun u1 s2 ⟨o2, H2, I2, q2, f2, g2⟩ => ?_)
  subst f2 g2
  refine thn (po_none.run pins s2 σ H2 (fun o G => o = none ∧ G = H2) I2 ⟨rfl, rfl⟩) fun u2 s3 ⟨o3, H3, I3, q3, f3, g3⟩ => ?_
  subst f3 g3
  refine thn (step.run pins s3 σ H3 (fun o G => o = some (-1) ∧ G = H3) I3 ⟨1, rfl, -1, rfl, rfl, rfl⟩) fun u3 s4 ⟨o4, H4, I4, q4, f4, g4⟩ => ?_
  subst f4 g4
  have J : Inv X pins σ H4 { s4 with heap := s4.heap.push { cls := .type "slice", data := .fields #[u1, u2, u3] } } := I4.kept (t' := s4.toks) fun b ob z => Heap.get?_push_of_some _ z
  obtain ⟨its, r, ht, hz⟩ := J.tuple hx
  have hlen := r.length
  have fit : its.toArray.size ≤ sizeLine := by rw [List.size_toArray]; omega
  show wpAny (model X.prog X.w) X.A (subscriptTail e (.Slice none none (some (.UnaryOp .USub (.Constant (.int 1) k p1) p2)) p3) (.ref a) (.ref s4.heap.objs.size)) (EP X pins σ Q) X.xe _
  refine tail_any (ops := [.ref a, .ref s4.heap.objs.size]) ht.typeIs slot_tuple_getitem.lookup (getItem_back ht (Heap.IsSliceOf.new _ u1 u2 u3) q2 q3 q4 fit ?_) (by with_unfolding_all rfl)
  refine ⟨.ref _, _, J.laid (t' := s4.toks) (o := .tup xs.reverse) (fun b ob z => Heap.get?_push_of_some _ z) (Nat.le_refl _) ?_, rfl, q _ (J.hok.fresh (Nat.le_refl _))⟩
  refine ⟨by rw [List.length_reverse]; exact hz, its.reverse, r.reverse, ?_⟩
  exact ⟨_, Heap.get?_push_size _ rfl, rfl, _, rfl⟩
end Ld

set_option Elab.async false
set_option linter.all false
set_option maxRecDepth 100000
set_option maxHeartbeats 2000000
/-! A dict by (event, ticket): asked, read, written. -/
namespace Ld
open PySem PySem.Spec PyProof.Rows L2
/-- a ticket -/
structure Tk where
  status : Str
  desk : Str
  answered : Bool
  days : Int
  marked : Bool
deriving DecidableEq
def b2i (b : Bool) : Int := if b = true then 1 else 0
theorem b2i_inj {a b : Bool} (h : b2i a = b2i b) : a = b := by cases a <;> cases b <;> simp_all [b2i]
def evKey (e : Str) (t : Tk) : NestedKey := .tup [.text e, .tup [.text t.status, .text t.desk, .num (b2i t.answered), .num t.days, .num (b2i t.marked)]]
theorem evKey_inj {e e' : Str} {t t' : Tk} (h : evKey e t = evKey e' t') : e = e' ∧ t = t' := by
  unfold evKey at h
  injection h with h
  injection h with h1 h
  injection h1 with h1
  injection h with h _
  injection h with h
  injection h with a1 h
  injection h with a2 h
  injection h with a3 h
  injection h with a4 h
  injection h with a5 _
  injection a1 with a1
  injection a2 with a2
  injection a3 with a3
  injection a4 with a4
  injection a5 with a5
  refine ⟨h1, ?_⟩
  obtain ⟨s, d, a, n, m⟩ := t
  obtain ⟨s', d', a', n', m'⟩ := t'
  dsimp only at a1 a2 a3 a4 a5
  rw [a1, a2, b2i_inj a3, a4, b2i_inj a5]
theorem evKey_depth (e : Str) (t : Tk) : (evKey e t).depth ≤ 8 := by
  unfold evKey
  simp [NestedKey.depth, NestedKey.depthAll]
/-- the values of a ticket -/
def Tk.vals (t : Tk) : List V := [.str t.status, .str t.desk, .bl t.answered, .int t.days, .bl t.marked]
def TkAt (H : Hp) (v : V) (t : Tk) : Prop := ∃ a, v = .ref a ∧ H a = some (.tup t.vals)
def KeyAt (H : Hp) (b : Addr) (e : Str) (t : Tk) : Prop := ∃ v, H b = some (.tup [.str e, v]) ∧ TkAt H v t
/-- what stands of a dict, as it is laid -/
def rawD (a : Addr) (es : Array DictEntry) (ep : Nat) : Heap → Prop := fun h => (a == sysModules) = false ∧ ∃ o, h.get? a = some o ∧ o.ExactDict ∧ o.data = .dict es ep
abbrev Ent := Str × Tk × V
/-- the dict at a holds these entries -/
def ND (P : Program) (w : World) (H : Hp) (a : Addr) (kvs : List Ent) : Prop := ∃ es ep xs, H a = some (.ext (rawD a es ep)) ∧ es.toList = xs.map (entryOfKey (nestedKind P w)) ∧ (xs.map (·.1)).Nodup ∧
  Paired (fun (p : Ent) (x : NestedKey × Addr × Value) => x.1 = evKey p.1 p.2.1 ∧ KeyAt H x.2.1 p.1 p.2.1 ∧ RelV p.2.2 x.2.2) kvs xs
def lookE (kvs : List Ent) (e : Str) (t : Tk) : Option V := (kvs.find? fun p => decide (p.1 = e ∧ p.2.1 = t)).map (·.2.2)
section
variable {P : Program} {w : World} {H : Hp} {h : Heap}
theorem all_of : ∀ {ks : List NestedKey} {vs : List Value}, Paired (fun k v => NestedIs h k v) ks vs → NestedAll h ks vs
  | _, _, .nil => .nil
  | _, _, .cons a r => .cons a (all_of r)
theorem tk_is {v : V} {u : Value} {t : Tk} (ok : HOk P w H h) (x : TkAt H v t) (r : RelV v u) : NestedIs h (.tup [.text t.status, .text t.desk, .num (b2i t.answered), .num t.days, .num (b2i t.marked)]) u := by
  obtain ⟨a, rfl, e⟩ := x
  cases (show u = Value.ref a from r)
  obtain ⟨_, its, rv, ⟨⟨oc, od, odt, osl⟩, hg, hc, n, hd⟩⟩ := ok a _ e
  unfold Tk.vals at rv
  cases rv with
  | cons r1 rv =>
  cases rv with
  | cons r2 rv =>
  cases rv with
  | cons r3 rv =>
  cases rv with
  | cons r4 rv =>
  cases rv with
  | cons r5 rv =>
  cases rv
  obtain ⟨_, q1⟩ := r1
  obtain ⟨_, q2⟩ := r2
  obtain ⟨_, q4⟩ := r4
  have q3 : _ = Value.bool t.answered := r3
  have q5 : _ = Value.bool t.marked := r5
  subst q1 q2 q3 q4 q5
  exact .tup hg hc hd (.cons (.text _ _) (.cons (.text _ _) (.cons (.bool rfl) (.cons (.int _ _) (.cons (.bool rfl) .nil)))))
theorem key_is {b : Addr} {e : Str} {t : Tk} (ok : HOk P w H h) (x : KeyAt H b e t) : (nestedKind P w).is h (evKey e t) b := by
  obtain ⟨v, eb, tk⟩ := x
  obtain ⟨_, its, rv, ⟨⟨oc, od, odt, osl⟩, hg, hc, n, hd⟩⟩ := ok b _ eb
  cases rv with
  | cons r1 rv =>
  cases rv with
  | cons r2 rv =>
  cases rv
  obtain ⟨_, q1⟩ := r1
  subst q1
  exact ⟨.tup hg hc hd (.cons (.text _ _) (.cons (tk_is ok tk r2) .nil)), evKey_depth e t⟩
theorem look_rel : ∀ {kvs : List Ent} {xs : List (NestedKey × Addr × Value)}, Paired (fun (p : Ent) (x : NestedKey × Addr × Value) => x.1 = evKey p.1 p.2.1 ∧ KeyAt H x.2.1 p.1 p.2.1 ∧ RelV p.2.2 x.2.2) kvs xs → ∀ (e : Str) (t : Tk), RelO (lookE kvs e t) ((atKey xs (evKey e t)).map (·.2))
  | _, _, .nil, _, _ => trivial
  | p :: kvs, x :: xs, .cons ⟨a, b, c⟩ r, e, t => by
    have ih := look_rel r e t
    unfold lookE atKey at ih ⊢
    rw [List.find?_cons, List.find?_cons]
    by_cases q : p.1 = e ∧ p.2.1 = t
    · have q2 : x.1 = evKey e t := by rw [a, q.1, q.2]
      rw [decide_eq_true q, decide_eq_true q2]
      exact c
    · have q2 : ¬ x.1 = evKey e t := fun z => q (evKey_inj (a.symm.trans z))
      rw [decide_eq_false q, decide_eq_false q2]
      exact ih
theorem ND.at_ {a : Addr} {kvs : List Ent} (ok : HOk P w H h) (d : ND P w H a kvs) : (a == sysModules) = false ∧ ∃ xs, h.DictOfH (nestedKind P w) a xs ∧ ∀ (e : Str) (t : Tk), RelO (lookE kvs e t) ((atKey xs (evKey e t)).map (·.2)) := by
  obtain ⟨es, ep, xs, e, he, nd, pr⟩ := d
  obtain ⟨⟨ns, o, hg, hx, hd⟩, _⟩ := ok a _ e
  refine ⟨ns, xs, ⟨o, es, ep, hg, hx, hd, he, fun x m => ?_, nd⟩, look_rel pr⟩
  clear he nd
  induction pr with
  | nil => cases m
  | cons q _ ih =>
    rcases List.mem_cons.mp m with rfl | m
    · rw [q.1]
      exact key_is ok q.2.1
    · exact ih m
end
theorem raw_ok {P : Program} {w : World} {H : Hp} {h : Heap} {a : Addr} {o : Obj} {es : Array DictEntry} {ep : Nat} (ns : (a == sysModules) = false) (hg : h.get? a = some o) (hx : o.ExactDict) (hd : o.data = .dict es ep) : ObjOk P w H h a (.ext (rawD a es ep)) :=
  ⟨⟨ns, o, hg, hx, hd⟩, ⟨o, hg⟩, fun _ _ ⟨n, q, z, r⟩ k => ⟨n, q, k _ z, r⟩⟩
theorem KeyAt.keep {H H' : Hp} {b : Addr} {e : Str} {t : Tk} (x : KeyAt H b e t) (k : ∀ c vs, H c = some (.tup vs) → H' c = some (.tup vs)) : KeyAt H' b e t := by
  obtain ⟨v, eb, a, rfl, ea⟩ := x
  exact ⟨_, k _ _ eb, a, rfl, k _ _ ea⟩
theorem ND.keep {P : Program} {w : World} {H H' : Hp} {a : Addr} {kvs : List Ent} (d : ND P w H a kvs) (e : ∀ o, H a = some o → H' a = some o) (k : ∀ c vs, H c = some (.tup vs) → H' c = some (.tup vs)) : ND P w H' a kvs := by
  obtain ⟨es, ep, xs, ea, he, nd, pr⟩ := d
  refine ⟨es, ep, xs, e _ ea, he, nd, ?_⟩
  clear he nd
  induction pr with
  | nil => exact .nil
  | cons q _ ih => exact .cons ⟨q.1, q.2.1.keep k, q.2.2⟩ ih
def rNotN (P : Program) (w : World) : R2 := fun x y H Q => ∃ b a kvs e t, x = .ref b ∧ y = .ref a ∧ ND P w H a kvs ∧ KeyAt H b e t ∧ Q (.bl (!(lookE kvs e t).isSome)) H
def tNGet (P : Program) (w : World) (td ty : TE) : TE := fun σ H Q => td σ H fun x H1 => ty σ H1 fun y H2 => ∃ a b kvs e t v, x = .ref a ∧ y = .ref b ∧ ND P w H2 a kvs ∧ KeyAt H2 b e t ∧ lookE kvs e t = some v ∧ Q v H2
def sNPut (P : Program) (w : World) (td ty tv : TE) : TS := fun D σ H => tv σ H fun v H1 => td σ H1 fun x H2 => ty σ H2 fun y H3 => ∃ a b kvs e t, x = .ref a ∧ y = .ref b ∧ ND P w H3 a kvs ∧ KeyAt H3 b e t ∧ lookE kvs e t = none ∧ kvs.length < sizeLine ∧
  ∀ H4, (∀ c, c ≠ a → H4 c = H3 c) → ND P w H4 a (kvs ++ [(e, t, v)]) → D.nx σ H4
def tNNew (P : Program) (w : World) : TE := fun _ H Q => ∀ p H', H p = none → (∀ c, c ≠ p → H' c = H c) → ND P w H' p [] → Q (.ref p) H'
section
variable {X : Cx} {pins : List (Addr × Obj)} {σ : L2.St} {H : Hp} {s : Shared} {A : Around} {E : Value → Shared → Prop}
theorem nroom (hu : A.units + 64 < cLine) : (nestedKind X.prog X.w).room A.in1 := by
  show A.in1.units + 8 < cLine
  have : A.in1.units = A.units + 1 := rfl
  omega
theorem op_notInN (hu : X.A.units + 64 < cLine) : OpR X (compareOp .NotIn) (rNotN X.prog X.w) := by
  intro pins s σ H x y v u Q I rx ry h
  obtain ⟨b, a, kvs, e, t, rfl, rfl, d, k, q⟩ := h
  cases (show v = Value.ref b from rx)
  cases (show u = Value.ref a from ry)
  obtain ⟨ns, xs, dh, lk⟩ := d.at_ I.hok
  refine wpAny_notIn_heap (nroom hu) (key_is I.hok k) ns dh ?_
  have z := (lk e t).isSome_eq
  rw [Option.isSome_map] at z
  rw [← z]
  exact ⟨.bl (!(lookE kvs e t).isSome), H, I.tok _, rfl, q⟩
theorem pe_nget {o i : Expr} {pos : Pos} {td ty : TE} (hu : X.A.units + 64 < cLine) (ho : PE X o td) (hi : PE X i ty) (hs : NoSl i) : PE X (.Subscript o i pos) (tNGet X.prog X.w td ty) := by
  refine ⟨fun pins s σ H Q I h => ?_⟩
  refine subD_of PySem.F.slot_dict_getitem.lookup hs (thn (ho.run pins s σ H _ I h) fun u s1 ⟨x, H1, I1, rx, q1⟩ => thn (hi.run pins s1 σ H1 _ I1 q1) fun iv s2 ⟨y, H2, I2, ry, a, b, kvs, e, t, v, ex, ey, d, k, l, q2⟩ => ?_)
  subst ex ey
  cases (show u = Value.ref a from rx)
  cases (show iv = Value.ref b from ry)
  obtain ⟨ns, xs, dh, lk⟩ := d.at_ I2.hok
  refine ⟨dh.typeIs, ?_⟩
  obtain ⟨w', hw, rw'⟩ := RelO.some_of (v := v) (o := (atKey xs (evKey e t)).map (·.2)) (by rw [← l]; exact lk e t)
  obtain ⟨p, hp, hp2⟩ := Option.map_eq_some_iff.mp hw
  refine wpAny_getItem_heap (nroom hu) (key_is I2.hok k) dh hp ?_
  rw [hp2]
  exact ⟨v, H2, I2.tok _, rw', q2⟩
theorem ps_nput {o i value : Expr} {pos pos' : Pos} {td ty tv : TE} (hu : X.A.units + 64 < cLine) (ho : PE X o td) (hi : PE X i ty) (hv : PE X value tv) (hs : swapsWith value (some (.Subscript o i pos')) pos.line X.env = pure false := by rfl) :
    PS X (.Assign [.Subscript o i pos'] value pos) (sNPut X.prog X.w td ty tv) := by
  refine ⟨fun pins s σ H D I h => ?_⟩
  refine wpAny_Assign_Subscript (thn (hv.run pins s σ H _ I h) fun r s1 ⟨v, H1, I1, rv, q1⟩ => thn (ho.run pins s1 σ H1 _ I1 q1) fun u s2 ⟨x, H2, I2, rx, q2⟩ => thn (hi.run pins s2 σ H2 _ I2 q2) fun iv s3 ⟨y, H3, I3, ry, a, b, kvs, e, t, ex, ey, d, k, l, sz, q3⟩ => ?_) hs
  subst ex ey
  cases (show u = Value.ref a from rx)
  cases (show iv = Value.ref b from ry)
  have hok := I3.hok
  obtain ⟨es, ep, xs, ea, he, nd, pr⟩ := d
  obtain ⟨ns, xs', dh', lk'⟩ := ND.at_ hok ⟨es, ep, xs, ea, he, nd, pr⟩
  have dh : s3.heap.DictOfH (nestedKind X.prog X.w) a xs := by
    obtain ⟨⟨_, o, hg, hx, hd⟩, _⟩ := hok a _ ea
    refine ⟨o, es, ep, hg, hx, hd, he, fun x m => ?_, nd⟩
    clear he nd q3 sz l lk'
    induction pr with
    | nil => cases m
    | cons q _ ih =>
      rcases List.mem_cons.mp m with rfl | m
      · rw [q.1]
        exact key_is hok q.2.1
      · exact ih m
  have no : atKey xs (evKey e t) = none := by
    have z := look_rel pr e t
    rw [l] at z
    cases q : atKey xs (evKey e t) with
    | none => rfl
    | some p => rw [q] at z; exact z.elim
  have lx : xs.length = kvs.length := (Paired.length pr).symm
  refine wpAny_setItem_heap (hsz := by omega) (nroom hu) (key_is hok k) dh fun h' dd hb => ?_
  rw [storedH_new no] at dd
  obtain ⟨o, es', ep', h1, h2, h3, h4, h5, h6⟩ := dd
  have J := d_write (t' := s3.toks + (nestedKind X.prog X.w).draws (evKey e t)) I3 (by rw [ea]; exact True.intro) hb ⟨o, h1⟩ (raw_ok (P := X.prog) (w := X.w) (H := upd H3 a (.ext (rawD a es' ep'))) ns h1 h2 h3)
  refine ⟨σ, upd H3 a (.ext (rawD a es' ep')), J, q3 _ (fun c nc => upd_ne nc) ⟨es', ep', xs ++ [(evKey e t, b, r)], upd_same, h4, h6, ?_⟩⟩
  have stay : ∀ c vs, H3 c = some (.tup vs) → upd H3 a (.ext (rawD a es' ep')) c = some (.tup vs) := fun c vs z => by
    rw [upd_ne fun y => by rw [y, ea] at z; cases z]
    exact z
  have last : Paired (fun (p : Ent) (x : NestedKey × Addr × Value) => x.1 = evKey p.1 p.2.1 ∧ KeyAt (upd H3 a (.ext (rawD a es' ep'))) x.2.1 p.1 p.2.1 ∧ RelV p.2.2 x.2.2) [(e, t, v)] [(evKey e t, b, r)] := .cons ⟨rfl, k.keep stay, rv⟩ .nil
  clear q3 J no lk' dh' dh he nd l sz lx h4 h5 h6
  induction pr with
  | nil => exact last
  | cons q _ ih => exact .cons ⟨q.1, q.2.1.keep stay, q.2.2⟩ ih
theorem pe_dnewN {pos : Pos} : PE X (.Dict [] [] pos) (tNNew X.prog X.w) := by
  refine ⟨fun pins s σ H Q I h => wpAny_Dict_empty ?_⟩
  have ns : (s.heap.objs.size == sysModules) = false := beq_eq_false_iff_ne.mpr (Ne.symm (Nat.ne_of_lt I.big))
  have fr := I.hok.fresh (Nat.le_refl s.heap.objs.size)
  refine ⟨.ref s.heap.objs.size, _, I.laid (a := s.heap.objs.size) (o := .ext (rawD s.heap.objs.size #[] 0)) (t' := s.toks) (fun _ _ q => Heap.get?_push_of_some _ q) (Nat.le_refl _) (raw_ok ns (Heap.get?_push_size _ rfl) ⟨rfl, rfl, rfl⟩ rfl), rfl, h _ _ fr (fun c nc => upd_ne nc) ⟨#[], 0, [], upd_same, rfl, List.nodup_nil, .nil⟩⟩
end
end Ld

set_option Elab.async false
set_option linter.all false
set_option maxRecDepth 100000
set_option maxHeartbeats 2000000
/-! Values that can be held against each other: how deep they are, that each is equal to itself. -/
namespace Ld
open PySem PySem.Spec PyProof.Rows L2
def layD : Nat → PyData → Prop
  | 0, .tuple _ => False
  | 0, .list _ => False
  | n + 1, .tuple ds => ∀ e ∈ ds, layD n e
  | n + 1, .list ds => ∀ e ∈ ds, layD n e
  | _, .str z => PyData.strOk z = true
  | _, .dict _ => False
  | _, _ => True
theorem layAll : ∀ {ds : List PyData} {n : Nat}, (∀ e ∈ ds, e.canLay0 = true ∧ e.depth ≤ n) → PyData.canLayAll0 ds = true ∧ PyData.depthAll ds ≤ n
  | [], n, _ => ⟨by simp [PyData.canLayAll0], by simp [PyData.depthAll]⟩
  | d :: r, n, h => by
    obtain ⟨a, b⟩ := h d List.mem_cons_self
    obtain ⟨c, e⟩ := layAll (ds := r) fun e m => h e (List.mem_cons_of_mem _ m)
    exact ⟨by simp [PyData.canLayAll0, a, c], by simp [PyData.depthAll]; omega⟩
theorem layD.to : ∀ {n : Nat} {d : PyData}, layD n d → d.canLay0 = true ∧ d.depth ≤ n
  | n + 1, .tuple ds, h => by
    obtain ⟨a, b⟩ := layAll (n := n) fun e m => layD.to (h e m)
    exact ⟨by simp [PyData.canLay0, a], by simp [PyData.depth]; omega⟩
  | n + 1, .list ds, h => by
    obtain ⟨a, b⟩ := layAll (n := n) fun e m => layD.to (h e m)
    exact ⟨by simp [PyData.canLay0, a], by simp [PyData.depth]; omega⟩
  | 0, .tuple _, h => h.elim
  | 0, .list _, h => h.elim
  | 0, .str z, h => ⟨by simpa [PyData.canLay0] using (show PyData.strOk z = true from h), by simp [PyData.depth]⟩
  | n + 1, .str z, h => ⟨by simpa [PyData.canLay0] using (show PyData.strOk z = true from h), by simp [PyData.depth]⟩
  | 0, .dict _, h => h.elim
  | n + 1, .dict _, h => h.elim
  | 0, .none, _ => ⟨by simp [PyData.canLay0], by simp [PyData.depth]⟩
  | n + 1, .none, _ => ⟨by simp [PyData.canLay0], by simp [PyData.depth]⟩
  | 0, .bool _, _ => ⟨by simp [PyData.canLay0], by simp [PyData.depth]⟩
  | n + 1, .bool _, _ => ⟨by simp [PyData.canLay0], by simp [PyData.depth]⟩
  | 0, .int _, _ => ⟨by simp [PyData.canLay0], by simp [PyData.depth]⟩
  | n + 1, .int _, _ => ⟨by simp [PyData.canLay0], by simp [PyData.depth]⟩
theorem layD.shaped {n : Nat} {d : PyData} (h : layD n d) (l : n ≤ 64) : SeqAt.shaped d = true := by
  obtain ⟨a, b⟩ := h.to
  unfold SeqAt.shaped
  simp [a]
  omega
theorem eqv_all : ∀ {ds : List PyData}, (∀ e ∈ ds, PyData.eqv e e = true) → PyData.eqvAll ds ds = true
  | [], _ => by simp [PyData.eqvAll]
  | d :: r, h => by
    have a := h d List.mem_cons_self
    have b := eqv_all (ds := r) fun e m => h e (List.mem_cons_of_mem _ m)
    simp [PyData.eqvAll, a, b]
theorem layD.refl : ∀ {n : Nat} {d : PyData}, layD n d → PyData.eqv d d = true
  | n + 1, .tuple ds, h => by
    show PyData.eqvAll ds ds = true
    exact eqv_all fun e m => layD.refl (h e m)
  | n + 1, .list ds, h => by
    show PyData.eqvAll ds ds = true
    exact eqv_all fun e m => layD.refl (h e m)
  | 0, .tuple _, h => h.elim
  | 0, .list _, h => h.elim
  | 0, .str z, h => by simp [PyData.eqv]
  | n + 1, .str z, h => by simp [PyData.eqv]
  | 0, .dict _, h => h.elim
  | n + 1, .dict _, h => h.elim
  | 0, .none, _ => by simp [PyData.eqv]
  | n + 1, .none, _ => by simp [PyData.eqv]
  | 0, .bool _, _ => by simp [PyData.eqv]
  | n + 1, .bool _, _ => by simp [PyData.eqv]
  | 0, .int _, _ => by simp [PyData.eqv]
  | n + 1, .int _, _ => by simp [PyData.eqv]
theorem layD.up : ∀ {n : Nat} {d : PyData}, layD n d → layD (n + 1) d
  | n + 1, .tuple ds, h => fun e m => layD.up (h e m)
  | n + 1, .list ds, h => fun e m => layD.up (h e m)
  | 0, .tuple _, h => h.elim
  | 0, .list _, h => h.elim
  | 0, .str z, h => h
  | n + 1, .str z, h => h
  | 0, .dict _, h => h.elim
  | n + 1, .dict _, h => h.elim
  | 0, .none, h => h
  | n + 1, .none, h => h
  | 0, .bool _, h => h
  | n + 1, .bool _, h => h
  | 0, .int _, h => h
  | n + 1, .int _, h => h
def lowOk (dsk : List Str) : Prop := ∀ z ∈ dsk, PyData.strOk z = true
theorem word_lay {ws : List Str} {d : PyData} (o : lowOk ws) (h : isWordD ws d = true) : layD 0 d := by
  cases d <;> first | exact Bool.noConfusion h | skip
  rename_i z
  unfold isWordD at h
  rw [List.any_eq_true] at h
  obtain ⟨y, m, e⟩ := h
  have e : y = z := by simpa using e
  exact e ▸ o y m
theorem statuses_ok : lowOk statusesS := by unfold lowOk; decide +kernel
theorem events_ok : lowOk eventsS := by unfold lowOk; decide +kernel
theorem fits_lay {dsk : List Str} {k : Str} {d : PyData} (o : lowOk dsk) (h : fitsKind dsk k d = true) : layD 0 d := by
  unfold fitsKind at h
  split at h
  · exact word_lay statuses_ok h
  · split at h
    · exact word_lay o h
    · cases d <;> first | trivial | skip
      all_goals
        repeat' split at h
        all_goals exact Bool.noConfusion h
theorem form_lay {fs : List (List Str)} {dsk : List Str} {e : PyData} (o : lowOk dsk) (hf : ∀ f ∈ fs, lowOk f) (h : hasForm fs dsk e = true) : layD 1 e := by
  unfold hasForm at h
  split at h
  · rename_i w rest
    split at h
    · rename_i f hq
      have m := List.mem_of_find?_eq_some hq
      have p := List.find?_some hq
      unfold formIs at p
      simp only [Bool.and_eq_true, decide_eq_true_eq] at p
      rw [List.all_eq_true] at h
      intro x hx
      rcases List.mem_cons.mp hx with rfl | hx
      · cases f with
        | nil => simp at p
        | cons a b =>
          have e : a = w := by simpa using p.1
          exact hf _ m w (by rw [e]; exact List.mem_cons_self)
      · obtain ⟨i, hi, rfl⟩ := List.mem_iff_getElem.mp hx
        have hi2 : i < f.tail.length := by omega
        have hz : (rest[i], f.tail[i]) ∈ rest.zip f.tail := by
          rw [List.mem_iff_getElem]
          exact ⟨i, by rw [List.length_zip]; omega, by simp⟩
        exact fits_lay o (h _ hz)
    · cases h
  · cases h
theorem testF_ok : ∀ f ∈ testForms, lowOk f := by unfold lowOk; decide +kernel
theorem actionF_ok : ∀ f ∈ actionForms, lowOk f := by unfold lowOk; decide +kernel
theorem deedF_ok : ∀ f ∈ deedForms, lowOk f := by unfold lowOk; decide +kernel
theorem rule_lay {dsk : List Str} {e : PyData} (o : lowOk dsk) (h : isRuleD dsk e = true) : layD 3 e := by
  unfold isRuleD at h
  split at h
  · rename_i ev ts as
    simp only [Bool.and_eq_true, decide_eq_true_eq, List.all_eq_true] at h
    obtain ⟨⟨⟨⟨⟨h1, _⟩, ht⟩, _⟩, _⟩, ha⟩ := h
    intro x hx
    rcases List.mem_cons.mp hx with rfl | hx
    · exact (word_lay events_ok h1).up.up
    · rcases List.mem_cons.mp hx with rfl | hx
      · exact fun t m => form_lay o testF_ok (ht t m)
      · rw [List.mem_singleton.mp hx]
        exact fun t m => form_lay o actionF_ok (ha t m)
  · cases h
end Ld

set_option Elab.async false
set_option linter.all false
set_option maxRecDepth 100000
set_option maxHeartbeats 2000000
/-! What rules do, in plain words. -/
namespace Ld
open PySem PySem.Spec PyProof.Rows L2
/-! ### what a test, an action, a deed looks like -/
theorem word_of {ws : List Str} {d : PyData} (h : isWordD ws d = true) : ∃ z, d = .str z ∧ z ∈ ws := by
  cases d <;> first | exact Bool.noConfusion h | skip
  rename_i z
  unfold isWordD at h
  rw [List.any_eq_true] at h
  obtain ⟨y, m, e⟩ := h
  have e : y = z := by simpa using e
  exact ⟨z, rfl, e ▸ m⟩
theorem bool_of {d : PyData} (h : isBoolD d = true) : ∃ b, d = .bool b := by
  cases d <;> first | exact ⟨_, rfl⟩ | exact Bool.noConfusion h
theorem days_of {d : PyData} (h : isDaysD d = true) : ∃ n : Int, d = .int n ∧ 1 ≤ n ∧ n ≤ 30 := by
  cases d <;> first | exact Bool.noConfusion h | skip
  rename_i n
  unfold isDaysD at h
  simp only [Bool.and_eq_true, decide_eq_true_eq] at h
  exact ⟨n, rfl, h.1, h.2⟩
theorem fk_status {dsk : List Str} {d : PyData} : fitsKind dsk "status" d = isWordD statusesS d := if_pos rfl
theorem fk_desk {dsk : List Str} {d : PyData} : fitsKind dsk "desk" d = isWordD dsk d := by
  unfold fitsKind
  rw [if_neg (by decide), if_pos rfl]
theorem fk_wanted {dsk : List Str} {d : PyData} : fitsKind dsk "wanted" d = isBoolD d := by
  unfold fitsKind
  rw [if_neg (by decide), if_neg (by decide), if_pos rfl]
theorem fk_days {dsk : List Str} {d : PyData} : fitsKind dsk "days" d = isDaysD d := by
  unfold fitsKind
  rw [if_neg (by decide), if_neg (by decide), if_neg (by decide)]
theorem zip1 {dsk : List Str} {k : Str} {rest : List PyData} (l : rest.length = 1) (h : ((rest.zip [k]).all fun p => fitsKind dsk p.2 p.1) = true) : ∃ x, rest = [x] ∧ fitsKind dsk k x = true := by
  match rest, l with
  | [x], _ =>
    refine ⟨x, rfl, ?_⟩
    simpa using h
theorem zip2 {dsk : List Str} {k j : Str} {rest : List PyData} (l : rest.length = 2) (h : ((rest.zip [k, j]).all fun p => fitsKind dsk p.2 p.1) = true) : ∃ x y, rest = [x, y] ∧ fitsKind dsk k x = true ∧ fitsKind dsk j y = true := by
  match rest, l with
  | [x, y], _ =>
    have h : (fitsKind dsk k x && (fitsKind dsk j y && true)) = true := h
    simp only [Bool.and_eq_true] at h
    exact ⟨x, y, rfl, h.1, h.2.1⟩
theorem zip0 {rest : List PyData} (l : rest.length = 0) : rest = [] := List.length_eq_zero_iff.mp l
theorem form_of {fs : List (List Str)} {dsk : List Str} {d : PyData} (h : hasForm fs dsk d = true) : ∃ w rest f, d = .tuple (.str w :: rest) ∧ f ∈ fs ∧ f.head? = some w ∧ f.tail.length = rest.length ∧ ((rest.zip f.tail).all fun p => fitsKind dsk p.2 p.1) = true := by
  unfold hasForm at h
  split at h
  · rename_i w rest
    split at h
    · rename_i f hq
      have m := List.mem_of_find?_eq_some hq
      have p := List.find?_some hq
      unfold formIs at p
      simp only [Bool.and_eq_true, decide_eq_true_eq] at p
      exact ⟨w, rest, f, rfl, m, p.1, p.2, h⟩
    · cases h
  · cases h
inductive TestIs (dsk : List Str) : PyData → Prop
  | status (z : Str) (b : Bool) (h : z ∈ statusesS) : TestIs dsk (.tuple [.str "status", .str z, .bool b])
  | desk (z : Str) (b : Bool) (h : z ∈ dsk) : TestIs dsk (.tuple [.str "desk", .str z, .bool b])
  | answered (b : Bool) : TestIs dsk (.tuple [.str "answered", .bool b])
  | marked (b : Bool) : TestIs dsk (.tuple [.str "marked", .bool b])
  | days (n : Int) (h : 1 ≤ n) (g : n ≤ 30) : TestIs dsk (.tuple [.str "days", .int n])
theorem test_of {dsk : List Str} {d : PyData} (h : hasForm testForms dsk d = true) : TestIs dsk d := by
  obtain ⟨w, rest, f, rfl, m, e, l, a⟩ := form_of h
  simp only [testForms, List.mem_cons, List.not_mem_nil, or_false] at m
  rcases m with rfl | rfl | rfl | rfl | rfl
  · cases e
    obtain ⟨x, y, rfl, h1, h2⟩ := zip2 l.symm a
    obtain ⟨z, rfl, hz⟩ := word_of (ws := statusesS) (fk_status ▸ h1)
    obtain ⟨b, rfl⟩ := bool_of (fk_wanted ▸ h2)
    exact .status z b hz
  · cases e
    obtain ⟨x, y, rfl, h1, h2⟩ := zip2 l.symm a
    obtain ⟨z, rfl, hz⟩ := word_of (ws := dsk) (fk_desk ▸ h1)
    obtain ⟨b, rfl⟩ := bool_of (fk_wanted ▸ h2)
    exact .desk z b hz
  · cases e
    obtain ⟨x, rfl, h1⟩ := zip1 l.symm a
    obtain ⟨b, rfl⟩ := bool_of (fk_wanted ▸ h1)
    exact .answered b
  · cases e
    obtain ⟨x, rfl, h1⟩ := zip1 l.symm a
    obtain ⟨b, rfl⟩ := bool_of (fk_wanted ▸ h1)
    exact .marked b
  · cases e
    obtain ⟨x, rfl, h1⟩ := zip1 l.symm a
    obtain ⟨n, rfl, p, q⟩ := days_of (fk_days ▸ h1)
    exact .days n p q
inductive ActIs (dsk : List Str) : PyData → Prop
  | status (z : Str) (h : z ∈ statusesS) : ActIs dsk (.tuple [.str "status", .str z])
  | desk (z : Str) (h : z ∈ dsk) : ActIs dsk (.tuple [.str "desk", .str z])
  | reply : ActIs dsk (.tuple [.str "reply"])
  | mark (b : Bool) : ActIs dsk (.tuple [.str "mark", .bool b])
  | stop : ActIs dsk (.tuple [.str "stop"])
theorem act_of {dsk : List Str} {d : PyData} (h : hasForm actionForms dsk d = true) : ActIs dsk d := by
  obtain ⟨w, rest, f, rfl, m, e, l, a⟩ := form_of h
  simp only [actionForms, List.mem_cons, List.not_mem_nil, or_false] at m
  rcases m with rfl | rfl | rfl | rfl | rfl
  · cases e
    obtain ⟨x, rfl, h1⟩ := zip1 l.symm a
    obtain ⟨z, rfl, hz⟩ := word_of (ws := statusesS) (fk_status ▸ h1)
    exact .status z hz
  · cases e
    obtain ⟨x, rfl, h1⟩ := zip1 l.symm a
    obtain ⟨z, rfl, hz⟩ := word_of (ws := dsk) (fk_desk ▸ h1)
    exact .desk z hz
  · cases e
    cases zip0 l.symm
    exact .reply
  · cases e
    obtain ⟨x, rfl, h1⟩ := zip1 l.symm a
    obtain ⟨b, rfl⟩ := bool_of (fk_wanted ▸ h1)
    exact .mark b
  · cases e
    cases zip0 l.symm
    exact .stop
inductive DeedIs (dsk : List Str) : PyData → Prop
  | letter : DeedIs dsk (.tuple [.str "letter"])
  | answer : DeedIs dsk (.tuple [.str "answer"])
  | day : DeedIs dsk (.tuple [.str "day"])
  | hand (z : Str) (h : z ∈ dsk) : DeedIs dsk (.tuple [.str "hand", .str z])
  | set (z : Str) (h : z ∈ statusesS) : DeedIs dsk (.tuple [.str "set", .str z])
theorem deed_of {dsk : List Str} {d : PyData} (h : hasForm deedForms dsk d = true) : DeedIs dsk d := by
  obtain ⟨w, rest, f, rfl, m, e, l, a⟩ := form_of h
  simp only [deedForms, List.mem_cons, List.not_mem_nil, or_false] at m
  rcases m with rfl | rfl | rfl | rfl | rfl
  · cases e
    cases zip0 l.symm
    exact .letter
  · cases e
    cases zip0 l.symm
    exact .answer
  · cases e
    cases zip0 l.symm
    exact .day
  · cases e
    obtain ⟨x, rfl, h1⟩ := zip1 l.symm a
    obtain ⟨z, rfl, hz⟩ := word_of (ws := dsk) (fk_desk ▸ h1)
    exact .hand z hz
  · cases e
    obtain ⟨x, rfl, h1⟩ := zip1 l.symm a
    obtain ⟨z, rfl, hz⟩ := word_of (ws := statusesS) (fk_status ▸ h1)
    exact .set z hz
/-! ### what they do -/
def holdsT (t : Tk) : PyData → Bool
  | .tuple [.str k, .str z, .bool w] => if k = "status" then decide (decide (t.status = z) = w) else decide (decide (t.desk = z) = w)
  | .tuple [.str k, .bool w] => if k = "answered" then decide (t.answered = w) else decide (t.marked = w)
  | .tuple [.str _, .int n] => decide (n ≤ t.days)
  | _ => false
/-- a ticket while rules are tried -/
structure Ef where
  tk : Tk
  events : List Str
  acted : List Int
  sent : Int
  closed : Bool
  twice : Bool
def setS (e : Ef) (z : Str) : Ef := if e.tk.status = z then e else { e with tk := { e.tk with status := z }, events := e.events ++ [("status" : Str)], closed := e.closed || decide (z = "closed") }
def moveS (e : Ef) (z : Str) : Ef := if e.tk.desk = z then e else { e with tk := { e.tk with desk := z }, events := e.events ++ [("moved" : Str)] }
def replyS (e : Ef) : Ef := { e with tk := { e.tk with answered := true, days := 0 }, events := e.events ++ [("replied" : Str)], sent := e.sent + 1, twice := e.twice || e.tk.answered }
def markS (e : Ef) (b : Bool) : Ef := { e with tk := { e.tk with marked := b } }
def actT (e : Ef) : PyData → Ef
  | .tuple [.str k, .str z] => if k = "status" then setS e z else moveS e z
  | .tuple [.str _, .bool b] => markS e b
  | _ => replyS e
def isStop : PyData → Bool
  | .tuple [.str k] => decide (k = "stop")
  | _ => false
def carryT : Ef → List PyData → Ef × Bool
  | e, [] => (e, false)
  | e, a :: r => if isStop a then (e, true) else carryT (actT e a) r
abbrev Ru := Int × List PyData × List PyData
def tryT : Ef → List Ru → Ef
  | e, [] => e
  | e, (i, ts, as) :: r => if ts.all (holdsT e.tk) then (if (carryT { e with acted := e.acted ++ [i] } as).2 then (carryT { e with acted := e.acted ++ [i] } as).1 else tryT (carryT { e with acted := e.acted ++ [i] } as).1 r) else tryT e r
def efNew (t : Tk) : Ef := ⟨t, [], [], 0, false, false⟩
/-- the rules at an event, by their indexes -/
def rulesAt (ev : Str) : Nat → List PyData → List Ru
  | _, [] => []
  | i, .tuple [.str e, .tuple ts, .tuple as] :: r => if e = ev then ((i : Int), ts, as) :: rulesAt ev (i + 1) r else rulesAt ev (i + 1) r
  | i, _ :: r => rulesAt ev (i + 1) r
def effT (rs : List PyData) (ev : Str) (t : Tk) : Ef := tryT (efNew t) (rulesAt ev 0 rs)
theorem actT_ev (e : Ef) (a : PyData) : (actT e a).events.length ≤ e.events.length + 1 := by
  unfold actT
  split
  · split
    · unfold setS
      split
      · omega
      · simp
    · unfold moveS
      split
      · omega
      · simp
  · unfold markS
    simp
  · unfold replyS
    simp
/-- tuples stay -/
def TupS (K : PySem.W.Frag) (H H' : Hp) : Prop := ∀ b xs, SqT K H b xs → SqT K H' b xs
theorem tups_of {K : PySem.W.Frag} {H H' : Hp} {bad : Addr → Prop} (k : Keep bad H H') (hb : ∀ b, bad b → (∃ xs, H b = some (.lst xs)) ∨ (∃ C dx fs, H b = some (.ins C dx fs)) ∨ H b = none) : TupS K H H' := fun b xs h => by
  have go : ∀ o, H b = some o → (∀ xs, o ≠ .lst xs) → (∀ C dx fs, o ≠ .ins C dx fs) → H' b = some o := fun o e n1 n2 => k b o (fun z => by
    rcases hb b z with ⟨x, h⟩ | ⟨c, d, f, h⟩ | h
    · rw [h] at e; injection e with e; exact n1 _ e.symm
    · rw [h] at e; injection e with e; exact n2 _ _ _ e.symm
    · rw [h] at e; cases e) e
  rcases h with (h | ⟨o, h⟩) | h
  · exact .inl (.inl (go _ h (fun _ => nofun) fun _ _ _ => nofun))
  · exact .inl (.inr ⟨o, go _ h (fun _ => nofun) fun _ _ _ => nofun⟩)
  · exact .inr h
theorem TupS.trans {K : PySem.W.Frag} {H H1 H2 : Hp} (h : TupS K H H1) (g : TupS K H1 H2) : TupS K H H2 := fun b xs z => g b xs (h b xs z)
theorem TupS.of {K : PySem.W.Frag} {H H1 : Hp} (s : Same H H1) : TupS K H H1 := fun b xs z => same_seqT s z
theorem dp_ts {K : PySem.W.Frag} {H H' : Hp} (ts : TupS K H H') : ∀ (n : Nat) {v : V} {d : PyData}, tpD n d → Dp K H v d → Dp K H' v d
  | 0, _, _, t, h => dp_leaf t h
  | n + 1, v, .tuple ds, t, h => by
    obtain ⟨a, xs, rfl, s, dx⟩ := dp_tup h
    exact .tup (ts _ _ s) (dps_map dx fun v d m h => dp_ts ts n (t d m) h)
  | n + 1, v, .list ds, t, h => dp_leaf t h
  | n + 1, v, .none, t, h => dp_leaf t h
  | n + 1, v, .bool _, t, h => dp_leaf t h
  | n + 1, v, .int _, t, h => dp_leaf t h
  | n + 1, v, .str _, t, h => dp_leaf t h
  | n + 1, v, .dict _, t, h => dp_leaf t h
theorem ActIs.tp {dsk : List Str} {d : PyData} (h : ActIs dsk d) : tpD 1 d := by
  cases h <;> (intro e m; simp only [List.mem_cons, List.not_mem_nil, or_false] at m; first | (rcases m with rfl | rfl <;> rfl) | (cases m; rfl))
theorem TestIs.tp {dsk : List Str} {d : PyData} (h : TestIs dsk d) : tpD 1 d := by
  cases h <;> (intro e m; simp only [List.mem_cons, List.not_mem_nil, or_false] at m; first | (rcases m with rfl | rfl | rfl <;> rfl) | (rcases m with rfl | rfl <;> rfl))
/-- a loop over a list, the list come -/
def ForL (K : PySem.W.Frag) (g : TG) (tb : TS) (D : Ends) (σ : L2.St) (x : V) (H : Hp) : Prop := iList K (fun _ H Q => Q x H) σ H fun J H1 => ∃ W : Nat → Nat → L2.St → Hp → Prop, (∃ m, W 0 m σ H1) ∧ ∀ i m σ H, W i m σ H →
  (J.stop i H ∧ D.nx σ H) ∨ (J.go i H ∧ ∃ N : L2.St → Hp → Prop, (∀ σ' H', N σ' H' → ∃ m', m' < m ∧ W (i + 1) m' σ' H') ∧ ∀ x H', J.yld i H x H' → g x σ H' fun σ2 H2 => tb { D with nx := N, ct := N, bk := D.nx } σ2 H2)
theorem for_l {K : PySem.W.Frag} {tl : TE} {g : TG} {tb : TS} {D : Ends} {σ : L2.St} {H : Hp} (h : tl σ H (ForL K g tb D σ)) : tFor (fun σ H R => iList K tl σ H R ∨ iTup K tl σ H R ∨ iStr tl σ H R) g tb D σ H := .inl h
theorem forLx {K : PySem.W.Frag} {g : TG} {tb : TS} {D : Ends} {σ : L2.St} {H : Hp} {a : Addr} {xs : List V} (hs : SqL K H a xs) (Pv : Nat → L2.St → Hp → Prop) (h0 : Pv 0 σ H) (hG : ∀ i σ H, i ≤ xs.length → Pv i σ H → SqL K H a xs)
    (step : ∀ i x σ H, xs[i]? = some x → Pv i σ H → g x σ H fun σ2 H2 => tb { D with nx := Pv (i + 1), ct := Pv (i + 1), bk := D.nx } σ2 H2) (hd : ∀ σ H, Pv xs.length σ H → D.nx σ H) : ForL K g tb D σ (.ref a) H :=
  ⟨a, rfl, ⟨xs, hs⟩, for_it walk_list Pv h0 hG (fun i x σ H H' _ p y => by
    obtain ⟨rfl, e⟩ := y
    exact step i x σ _ e p) hd⟩
section
variable {K : PySem.W.Frag} {H : Hp} {Q : VK} {σ : L2.St} {a p : Addr} {xs : List V} {tl : TE} {g : TG} {tb : TS} {D : Ends} {tt : TT} {te : TE} {vs : List Nat}
/-- a comprehension over a tuple, the tuple come -/
def LcSeqT (K : PySem.W.Frag) (g : TG) (tt : TT) (te : TE) (vs : List Nat) (σ : L2.St) (Q : VK) (x : V) (H : Hp) : Prop := iTup K (fun _ H Q => Q x H) σ H fun J H1 => LcIn J g tt te vs σ Q H1
theorem lc_t (h : tl σ H (LcSeqT K g tt te vs σ Q)) : tLc (fun σ H R => iList K tl σ H R ∨ iTup K tl σ H R ∨ iStr tl σ H R) g tt te vs σ H Q := .inr (.inl h)
/-- a comprehension over a tuple, with a test: what F tells -/
theorem lcTf (hs : ∀ H', Same H H' → SqT K H' a xs) (few : xs.length < sizeLine) (F : Nat → List V) (h0 : F 0 = []) (fl : ∀ i, (F i).length ≤ i)
    (step : ∀ i x H' (N : Bool → V → Hp → Prop), xs[i]? = some x → Same H H' →
      (∀ H4, Same H' H4 → F (i + 1) = F i → N false .non H4) → (∀ y H4, Same H' H4 → F (i + 1) = F i ++ [y] → N true y H4) →
      g x (wipe σ vs) H' fun σ2 H2 => wipe σ2 vs = wipe σ vs ∧ tt σ2 H2 fun b H3 => if b = true then te σ2 H3 fun y H4 => N true y H4 else N false .non H3)
    (hd : ∀ D H', H D = none → Same H H' → H' D = some (.lst (F xs.length)) → Q (.ref D) H') :
    LcSeqT K g tt te vs σ Q (.ref a) H := by
  refine ⟨a, rfl, ⟨xs, hs H (Same.refl H)⟩, ?_⟩
  refine lcAnyIn walk_tup (fun D i H' => Same H H' ∧ H' D = some (.lst (F i))) (fun D nD => ⟨(Same.put (Same.refl H) nD), by rw [h0]; exact upd_same⟩) (fun D i H' _ q => hs H' q.1) ?_ ?_
  · rintro D nD i x H0 H1 hi ⟨k1, e1⟩ y
    obtain ⟨rfl, hx⟩ := y
    have l := fl i
    have := step i x H1 (fun b y H4 => if b = true then (∃ acc, H4 D = some (.lst acc) ∧ acc.length < sizeLine ∧ (Same H (upd H4 D (.lst (acc ++ [y]))) ∧ upd H4 D (.lst (acc ++ [y])) D = some (.lst (F (i + 1))))) else (Same H H4 ∧ H4 D = some (.lst (F (i + 1))))) hx k1 ?_ ?_
    · exact this
    · intro H4 k4 e
      exact ⟨k1.trans k4, by rw [e]; exact k4 _ _ e1⟩
    · intro y H4 k4 e
      refine ⟨F i, k4 _ _ e1, by omega, fun b o q => ?_, by rw [e]; exact upd_same⟩
      rw [upd_ne (ne_of_none q nD)]
      exact k4 _ _ (k1 _ _ q)
  · rintro D nD H' ⟨k, e⟩
    exact hd D H' nD k e
end
theorem rAll_bs {K : PySem.W.Frag} {H : Hp} {D : Addr} {bs : List Bool} {Q : VK} (e : H D = some (.lst (bs.map V.bl))) (q : Q (.bl (bs.all id)) H) : rAll K [.ref D] H Q := ⟨D, bs, rfl, .inl (.inl e), q⟩
/-- a rule with its index stands there -/
def RuAt (K : PySem.W.Frag) (H : Hp) (dsk : List Str) (v : V) (r : Ru) : Prop := ∃ p t1 t2, v = .ref p ∧ H p = some (.tup [.int r.1, t1, t2]) ∧ Dp K H t1 (.tuple r.2.1) ∧ Dp K H t2 (.tuple r.2.2) ∧ (∀ d ∈ r.2.1, TestIs dsk d) ∧ (∀ d ∈ r.2.2, ActIs dsk d) ∧ r.2.1.length ≤ 100 ∧ r.2.2.length ≤ 100
theorem RuAt.keep {K : PySem.W.Frag} {H H' : Hp} {dsk : List Str} {v : V} {r : Ru} (h : RuAt K H dsk v r) (ts : TupS K H H') (t2 : ∀ p xs, H p = some (.tup xs) → H' p = some (.tup xs)) : RuAt K H' dsk v r := by
  obtain ⟨p, t, u, rfl, e, d1, d2, a, b, c, d⟩ := h
  refine ⟨p, t, u, rfl, t2 _ _ e, dp_ts ts 2 (fun x m => (a x m).tp) d1, dp_ts ts 2 (fun x m => (b x m).tp) d2, a, b, c, d⟩
theorem carryT_ev (e : Ef) : ∀ as : List PyData, (carryT e as).1.events.length ≤ e.events.length + as.length := by
  intro as
  induction as generalizing e with
  | nil => simp [carryT]
  | cons a r ih =>
    unfold carryT
    split
    · simp
    · have := ih (actT e a)
      have := actT_ev e a
      simp only [List.length_cons]
      omega
theorem actT_ac (e : Ef) (a : PyData) : (actT e a).acted = e.acted := by
  unfold actT
  split
  · split
    · unfold setS; split <;> rfl
    · unfold moveS; split <;> rfl
  · rfl
  · rfl
theorem carryT_ac (e : Ef) : ∀ as : List PyData, (carryT e as).1.acted = e.acted := by
  intro as
  induction as generalizing e with
  | nil => rfl
  | cons a r ih =>
    unfold carryT
    split
    · rfl
    · rw [ih, actT_ac]
theorem paired_get {α β : Type} {R : α → β → Prop} : ∀ {xs : List α} {ys : List β} {i : Nat} {x : α}, Paired R xs ys → xs[i]? = some x → ∃ y, ys[i]? = some y ∧ R x y
  | _, _, 0, _, .cons r _, e => ⟨_, rfl, by cases e; exact r⟩
  | _, _, i + 1, _, .cons _ t, e => paired_get (i := i) t e
end Ld

set_option Elab.async false
set_option linter.all false
set_option maxRecDepth 100000
set_option maxHeartbeats 4000000
/-! Data, or a dict; a list of such. -/
namespace Ld
open PySem PySem.Spec PyProof.Rows L2
inductive Dq (K : PySem.W.Frag) (H : Hp) : V → PyData → Prop
  | of {v : V} {d : PyData} : Dp K H v d → Dq K H v d
  | dct {a : Addr} {kvs : List (Key × V)} {es : List (PyData × PyData)} : H a = some (.dK kvs) → Dq K H (.ref a) (.dict es)
inductive DqAll (K : PySem.W.Frag) (H : Hp) : List V → List PyData → Prop
  | nil : DqAll K H [] []
  | cons {v : V} {vs : List V} {d : PyData} {ds : List PyData} : Dq K H v d → DqAll K H vs ds → DqAll K H (v :: vs) (d :: ds)
inductive Dt (K : PySem.W.Frag) (H : Hp) : V → PyData → Prop
  | of {v : V} {d : PyData} : Dq K H v d → Dt K H v d
  | lst {a : Addr} {xs : List V} {ds : List PyData} : SqL K H a xs → DqAll K H xs ds → Dt K H (.ref a) (.list ds)
theorem Dt.dp {K : PySem.W.Frag} {H : Hp} {v : V} {d : PyData} (h : Dp K H v d) : Dt K H v d := .of (.of h)
section
variable {K : PySem.W.Frag} {H H' : Hp}
theorem Dq.same {v : V} {d : PyData} (e : Same H H') (h : Dq K H v d) : Dq K H' v d := by
  cases h with
  | of h => exact .of (dpSame e h)
  | dct h => exact .dct (e _ _ h)
theorem DqAll.same {vs : List V} {ds : List PyData} (e : Same H H') (h : DqAll K H vs ds) : DqAll K H' vs ds := by
  induction h with
  | nil => exact .nil
  | cons h _ ih => exact .cons (h.same e) ih
theorem Dt.same {v : V} {d : PyData} (e : Same H H') (h : Dt K H v d) : Dt K H' v d := by
  cases h with
  | of h => exact .of (h.same e)
  | lst h g => exact .lst (e.seq h) (g.same e)
theorem dqs_of : ∀ {vs : List V} {ds : List PyData}, DpAll K H vs ds → DqAll K H vs ds
  | _, _, .nil => .nil
  | _, _, .cons h t => .cons (.of h) (dqs_of t)
theorem DqAll.app {vs ws : List V} {ds es : List PyData} (h : DqAll K H vs ds) (g : DqAll K H ws es) : DqAll K H (vs ++ ws) (ds ++ es) := by
  induction h with
  | nil => exact g
  | cons h _ ih => exact .cons h ih
theorem DqAll.len {vs : List V} {ds : List PyData} (h : DqAll K H vs ds) : vs.length = ds.length := by
  induction h with
  | nil => rfl
  | cons _ _ ih => simp [ih]
theorem DqAll.take {vs : List V} {ds : List PyData} (h : DqAll K H vs ds) : ∀ n : Nat, DqAll K H (vs.take n) (ds.take n) := by
  induction h with
  | nil => intro n; simp; exact .nil
  | cons h _ ih =>
    intro n
    cases n with
    | zero => exact .nil
    | succ n => exact .cons h (ih n)
theorem dqs_get {vs : List V} {ds : List PyData} (h : DqAll K H vs ds) : ∀ {i : Nat} {v : V}, vs[i]? = some v → ∃ d, ds[i]? = some d ∧ Dq K H v d := by
  induction h with
  | nil => intro i v e; cases e
  | cons h _ ih =>
    intro i v e
    cases i with
    | zero => simp at e; subst e; exact ⟨_, rfl, h⟩
    | succ i => simp at e; obtain ⟨d, e1, h1⟩ := ih e; exact ⟨d, by simpa using e1, h1⟩
theorem Dq.tup {v : V} {ds : List PyData} (h : Dq K H v (.tuple ds)) : Dp K H v (.tuple ds) := by
  cases h with | of h => exact h
theorem Dt.list {v : V} {ds : List PyData} (h : Dt K H v (.list ds)) : ∃ a xs, v = .ref a ∧ SqL K H a xs ∧ DqAll K H xs ds := by
  cases h with
  | lst h g => exact ⟨_, _, rfl, h, g⟩
  | of h =>
    cases h with
    | of h =>
      obtain ⟨a, xs, e, h, g⟩ := dp_lst h
      exact ⟨a, xs, e, h, dqs_of g⟩
/-- all are data where all must be tuples -/
theorem dqs_dps {vs : List V} {ds : List PyData} (h : DqAll K H vs ds) : (∀ d ∈ ds, ∃ es, d = .tuple es) → DpAll K H vs ds := by
  induction h with
  | nil => exact fun _ => .nil
  | cons h _ ih =>
    intro al
    obtain ⟨es, rfl⟩ := al _ List.mem_cons_self
    exact .cons h.tup (ih fun e m => al e (List.mem_cons_of_mem _ m))
theorem kitQ : ∀ t ∈ ["NoneType", "bool", "int", "str", "list", "tuple", "dict"], ∀ n ∈ ["bool", "int", "str", "list", "tuple"], kitB t n = some (t == n || (n == "int" && t == "bool")) := by
  decide +kernel
theorem tyq {v : V} {d : PyData} (h : Dq K H v d) : TyX K H v (.type (tyD d)) ∧ tyD d ∈ ["NoneType", "bool", "int", "str", "list", "tuple", "dict"] := by
  cases h with
  | of h =>
    exact ⟨tyx h, List.mem_append_left ["dict"] (dp_kind h)⟩
  | dct h => exact ⟨.base (.dK h), by simp [tyD]⟩
theorem isi_dq {v : V} {d : PyData} {n : String} {Q : VK} (h : Dq K H v d) (q : Q (.bl (isD n d)) H) (hn : n ∈ ["bool", "int", "str", "list", "tuple"] := by decide) : rIsi K [v, .ty n] H Q :=
  ⟨v, .ty n, .type (tyD d), .type n, isD n d, rfl, .ty n, (tyq h).1, kit_ty (kitQ _ (tyq h).2 _ hn), q⟩
theorem isi_dt {v : V} {d : PyData} {n : String} {Q : VK} (h : Dt K H v d) (q : Q (.bl (isD n d)) H) (hn : n ∈ ["bool", "int", "str", "list", "tuple"] := by decide) : rIsi K [v, .ty n] H Q := by
  cases h with
  | of h => exact isi_dq h q hn
  | @lst a xs ds h _ => exact ⟨_, .ty n, .type "list", .type n, isD n (.list ds), rfl, .ty n, tyxL h, kit_ty (kitQ _ (by simp) _ hn), q⟩
end
/-- has_form and is_deed of any such value -/
def spFormX (K : PySem.W.Frag) : Sp := fun vs H Q _ => ∃ v d vf fs a dsk, vs = [v, vf, .ref a] ∧ Dq K H v d ∧ (∀ ds, d = .tuple ds → ds.length ≤ 1000) ∧ Dp K H vf (formsD fs) ∧ (∀ f ∈ fs, f ≠ [] ∧ f.length ≤ 1000) ∧ SqT K H a (List.map V.str dsk) ∧ ∀ H', Same H H' → Q (.bl (hasForm fs dsk d)) H'
def spDeskX (K : PySem.W.Frag) (ok : PyData → Prop) (g : List Str → PyData → Bool) : Sp := fun vs H Q _ => ∃ v d a dsk, vs = [v, .ref a] ∧ Dq K H v d ∧ ok d ∧ SqT K H a (List.map V.str dsk) ∧ ∀ H', Same H H' → Q (.bl (g dsk d)) H'
theorem disp_one {σ : L2.St} {H : Hp} {Q : VK} {k : Str} {v : V} (q : ∀ p H', Same H H' → H p = none → (∃ kvs, H' p = some (.dK kvs)) → Q (.ref p) H') : tDisp [(tC (.str k), tC v)] σ H Q := fun p n =>
  ⟨upd_same, [(.inr k, v)], rfl, by simp, q p _ (fun b o e => by rw [upd_ne (ne_of_none e n), upd_ne (ne_of_none e n)]; exact e) n ⟨_, upd_same⟩⟩
end Ld

set_option Elab.async false
set_option linter.all false
set_option maxRecDepth 100000
set_option maxHeartbeats 2000000
/-! isinstance of a caught error that has a field; a def called in a try. -/
namespace Ld
open PySem PySem.Spec PyProof.Rows L2
/-- what a class of errors says, so that its instances can be asked -/
structure ExcX (K : PySem.W.Frag) (C : Addr) : Prop where
  hd : PySem.W.hasDictIn K C = true
  ga : PySem.W.findIn K (.ref C) "__getattribute__" = some (some (.builtin "BaseException.__getattribute__"))
  gg : PySem.W.findIn K (.ref C) "__getattr__" = some none
  ex : PySem.W.subIn K (.ref C) (.type "BaseException") = some true
  ty : PySem.W.findIn K (.ref C) "__class__" = some (some (.builtin "object.__class__"))
  tg : PySem.W.specialIn K (.builtin "object.__class__") "__get__" = some (some (.builtin "getset_descriptor.__get__"))
  tt : PySem.W.takesIn K (.builtin "object.__class__") = some true
  mo : PySem.W.mroIn K C (.type "object") = some true
theorem ExcX.cls {K : PySem.W.Frag} {C : Addr} (T : ExcX K C) : (PySem.W.clsIn K C).isSome = true := by
  obtain ⟨_, e, _⟩ := PySem.W.any_some T.hd
  rw [e]
  rfl
/-- isinstance(e, c): e the caught error, of the class C, with a dict -/
def rIsX (K : PySem.W.Frag) (C z : Addr) (k : Value) (d : Option Addr) : List V → Hp → VK → Prop := fun xs H Q => ∃ (c : V) (cv : Value) (b : Bool), xs = [.ref z, c] ∧ k = .ref C ∧ ClsV c cv ∧ PySem.W.kitOne K (.ref C) cv = some b ∧ (∃ dd fs, d = some dd ∧ H dd = some (.xd fs)) ∧ Q (.bl b) H
theorem call_isX {X : Cx} {z C : Addr} {oz : Obj} {k : Value} {d : Option Addr} {pn : List (Addr × Obj)} (T : ExcX X.K C) (hz : Zc k d oz) (hf : ∃ vs, oz.data = .fields vs) : CallR (X.suite z ((z, oz) :: pn)) (.builtin "isinstance") (rIsX X.K C z k d) := by
  intro pins t τ G ys us R I rr g
  obtain ⟨c, cv, b, rfl, rfl, cc, e, ⟨dd, fs, rfl, ed⟩, q⟩ := g
  cases rr with | cons r1 rr =>
  cases rr with | cons r2 rr =>
  cases rr
  cases r1
  cases cc.eq r2
  obtain ⟨here, _⟩ := I.pin (z, oz) (List.mem_append_left _ List.mem_cons_self)
  obtain ⟨ws, hw⟩ := hf
  obtain ⟨_, hn, _⟩ := (show ObjOk X.prog X.w G t.heap dd (.xd fs) from I.hok dd _ ed)
  obtain ⟨od, ho, _⟩ := lookIn_ns hn
  have J : PySem.W.InstAt t.heap z oz C (some od) := ⟨here, hz.1, by unfold PySem.W.notCls; rw [hw] <;> rfl, by rw [hz.2]; exact ho⟩
  exact PySem.W.kia_one (PySem.W.kitx_exc T.cls T.ga T.gg T.ex T.ty T.tg T.tt T.mo) I.kIn J e (fun z => nomatch z) fun tk => ⟨.bl b, G, I.kept (t' := tk) (fun _ _ z => z), rfl, q⟩
theorem pe_callSO {X : Cx} {x : Str} {ps : List Str} {k : Nat} {sp : Sp} {E : L2.St → XK} {p pos : Pos} {e : Expr} {es : List Expr} {t : TA} (D : DefOk X.prog X.w X.K X.mg X.base x ps k sp) {n : Nat} (hr : Room n X.A) (hg : Gl X x) (hx : ∀ σ, PassesAt (L2.CX X.prog X.w) X σ (E σ)) (ha : PA X (e :: es) t) (hk : k ≤ n := by omega)
    (hdb : (x == ("__debug__" : Str)) = false := by decide) (he : starEach (e :: es) X.env = (false, eval e X.env) :: starEach es X.env := by rfl) (hpl : (backTo pos (starEach es X.env)).any (·.1) = false := by rfl) : PE X (.Call (.Name x p) (e :: es) [] pos) (tCallS sp E t) := by
  obtain ⟨f, fd, hm, kp, hb, F, _⟩ := D.ex
  exact pe_callS F (hr.mono hk) hg hm kp hb hx ha hdb he hpl
end Ld

set_option Elab.async false
set_option linter.all false
set_option maxRecDepth 100000
set_option maxHeartbeats 4000000
/-! The text by places, and what the top has written. -/
namespace Ld
open PySem PySem.Spec PyProof.Rows L2
def topS (i : Nat) : Stmt := PySem.Challenge.pw_lettersdesk_k27_deeds_refused.main.body.getD i (.Pass ⟨0, 0, 0, 0⟩)
abbrev s__wall : Stmt := topS 0
theorem sc__wall : FnScope ["k"] ["k"] (defScope s__wall) := ⟨rfl, rfl, rfl, by decide +kernel, rfl, by decide +kernel, by decide +kernel⟩
abbrev s_NoRule_init : Stmt := inClass (topS 4) 0
abbrev s_NoDeed_init : Stmt := inClass (topS 5) 0
abbrev s_NoTicket_init : Stmt := inClass (topS 6) 0
abbrev s_is_whole : Stmt := topS 19
theorem sc_is_whole : FnScope ["value"] ["value"] (defScope s_is_whole) := ⟨rfl, rfl, rfl, by decide +kernel, rfl, by decide +kernel, by decide +kernel⟩
abbrev s_is_name : Stmt := topS 20
theorem sc_is_name : FnScope ["value", "letter"] ["value"] (defScope s_is_name) := ⟨rfl, rfl, rfl, by decide +kernel, rfl, by decide +kernel, by decide +kernel⟩
abbrev s_are_desks : Stmt := topS 21
theorem sc_are_desks : FnScope ["value", "name"] ["value"] (defScope s_are_desks) := ⟨rfl, rfl, rfl, by decide +kernel, rfl, by decide +kernel, by decide +kernel⟩
abbrev s_is_rule : Stmt := topS 22
theorem sc_is_rule : FnScope ["value", "desks", "event", "tests", "actions", "test", "action"] ["value", "desks"] (defScope s_is_rule) := ⟨rfl, rfl, rfl, by decide +kernel, rfl, by decide +kernel, by decide +kernel⟩
abbrev s_is_deed : Stmt := topS 23
theorem sc_is_deed : FnScope ["value", "desks"] ["value", "desks"] (defScope s_is_deed) := ⟨rfl, rfl, rfl, by decide +kernel, rfl, by decide +kernel, by decide +kernel⟩
abbrev s_wrong_deed : Stmt := topS 24
theorem sc_wrong_deed : FnScope ["deeds", "desks", "index", "deed"] ["deeds", "desks"] (defScope s_wrong_deed) := ⟨rfl, rfl, rfl, by decide +kernel, rfl, by decide +kernel, by decide +kernel⟩
abbrev s_is_index : Stmt := topS 25
theorem sc_is_index : FnScope ["value", "many"] ["value", "many"] (defScope s_is_index) := ⟨rfl, rfl, rfl, by decide +kernel, rfl, by decide +kernel, by decide +kernel⟩
abbrev s_is_word : Stmt := topS 26
theorem sc_is_word : FnScope ["value", "words"] ["value", "words"] (defScope s_is_word) := ⟨rfl, rfl, rfl, by decide +kernel, rfl, by decide +kernel, by decide +kernel⟩
abbrev s__has_form : Stmt := topS 27
theorem sc__has_form : FnScope ["value", "forms", "desks", "word", "kinds", "worth", "kind"] ["value", "forms", "desks"] (defScope s__has_form) := ⟨rfl, rfl, rfl, by decide +kernel, rfl, by decide +kernel, by decide +kernel⟩
abbrev s__fits : Stmt := topS 28
theorem sc__fits : FnScope ["value", "kind", "desks"] ["value", "kind", "desks"] (defScope s__fits) := ⟨rfl, rfl, rfl, by decide +kernel, rfl, by decide +kernel, by decide +kernel⟩
abbrev s_Effect_init : Stmt := inClass (topS 30) 0
theorem sc_Effect_init : FnScope ["self", "ticket"] ["self", "ticket"] (defScope s_Effect_init) := ⟨rfl, rfl, rfl, by decide +kernel, rfl, by decide +kernel, by decide +kernel⟩
abbrev s_Effect_ticket_now : Stmt := inClass (topS 30) 1
theorem sc_Effect_ticket_now : FnScope ["self"] ["self"] (defScope s_Effect_ticket_now) := ⟨rfl, rfl, rfl, by decide +kernel, rfl, by decide +kernel, by decide +kernel⟩
abbrev s_Effect_try_rules : Stmt := inClass (topS 30) 2
theorem sc_Effect_try_rules : FnScope ["self", "rules", "index", "tests", "actions", "test"] ["self", "rules"] (defScope s_Effect_try_rules) := ⟨rfl, rfl, rfl, by decide +kernel, rfl, by decide +kernel, by decide +kernel⟩
abbrev s_Effect_holds : Stmt := inClass (topS 30) 3
theorem sc_Effect_holds : FnScope ["self", "test", "word"] ["self", "test"] (defScope s_Effect_holds) := ⟨rfl, rfl, rfl, by decide +kernel, rfl, by decide +kernel, by decide +kernel⟩
abbrev s_Effect_carry_out : Stmt := inClass (topS 30) 4
theorem sc_Effect_carry_out : FnScope ["self", "actions", "action", "word"] ["self", "actions"] (defScope s_Effect_carry_out) := ⟨rfl, rfl, rfl, by decide +kernel, rfl, by decide +kernel, by decide +kernel⟩
abbrev s_Effect_set_status : Stmt := inClass (topS 30) 5
theorem sc_Effect_set_status : FnScope ["self", "status"] ["self", "status"] (defScope s_Effect_set_status) := ⟨rfl, rfl, rfl, by decide +kernel, rfl, by decide +kernel, by decide +kernel⟩
abbrev s_Effect_move : Stmt := inClass (topS 30) 6
theorem sc_Effect_move : FnScope ["self", "desk"] ["self", "desk"] (defScope s_Effect_move) := ⟨rfl, rfl, rfl, by decide +kernel, rfl, by decide +kernel, by decide +kernel⟩
abbrev s_Effect_send_reply : Stmt := inClass (topS 30) 7
theorem sc_Effect_send_reply : FnScope ["self"] ["self"] (defScope s_Effect_send_reply) := ⟨rfl, rfl, rfl, by decide +kernel, rfl, by decide +kernel, by decide +kernel⟩
abbrev s_Turn_init : Stmt := inClass (topS 33) 0
theorem sc_Turn_init : FnScope ["self", "event", "ticket"] ["self", "event", "ticket"] (defScope s_Turn_init) := ⟨rfl, rfl, rfl, by decide +kernel, rfl, by decide +kernel, by decide +kernel⟩
abbrev s_Turn_report : Stmt := inClass (topS 33) 1
theorem sc_Turn_report : FnScope ["self"] ["self"] (defScope s_Turn_report) := ⟨rfl, rfl, rfl, by decide +kernel, rfl, by decide +kernel, by decide +kernel⟩
abbrev s_Turn_run : Stmt := inClass (topS 33) 2
theorem sc_Turn_run : FnScope ["self", "works", "events", "handled", "effect"] ["self", "works"] (defScope s_Turn_run) := ⟨rfl, rfl, rfl, by decide +kernel, rfl, by decide +kernel, by decide +kernel⟩
abbrev s_Turn_take : Stmt := inClass (topS 33) 3
theorem sc_Turn_take : FnScope ["self", "effect"] ["self", "effect"] (defScope s_Turn_take) := ⟨rfl, rfl, rfl, by decide +kernel, rfl, by decide +kernel, by decide +kernel⟩
abbrev s_Turn_fault_kinds : Stmt := inClass (topS 33) 4
theorem sc_Turn_fault_kinds : FnScope ["self", "status", "_", "answered", "kinds"] ["self"] (defScope s_Turn_fault_kinds) := ⟨rfl, rfl, rfl, by decide +kernel, rfl, by decide +kernel, by decide +kernel⟩
abbrev s_Works_init : Stmt := inClass (topS 34) 0
theorem sc_Works_init : FnScope ["self", "book", "event", "index", "tests", "actions"] ["self", "book"] (defScope s_Works_init) := ⟨rfl, rfl, rfl, by decide +kernel, rfl, by decide +kernel, by decide +kernel⟩
abbrev s_Works_effect : Stmt := inClass (topS 34) 1
theorem sc_Works_effect : FnScope ["self", "event", "ticket", "key", "effect"] ["self", "event", "ticket"] (defScope s_Works_effect) := ⟨rfl, rfl, rfl, by decide +kernel, rfl, by decide +kernel, by decide +kernel⟩
abbrev s_Works_begun : Stmt := inClass (topS 34) 2
theorem sc_Works_begun : FnScope ["self", "ticket", "deed", "status", "desk", "answered", "days", "marked", "word", "event"] ["self", "ticket", "deed"] (defScope s_Works_begun) := ⟨rfl, rfl, rfl, by decide +kernel, rfl, by decide +kernel, by decide +kernel⟩
abbrev s_Works_run : Stmt := inClass (topS 34) 3
theorem sc_Works_run : FnScope ["self", "event", "ticket", "turn"] ["self", "event", "ticket"] (defScope s_Works_run) := ⟨rfl, rfl, rfl, by decide +kernel, rfl, by decide +kernel, by decide +kernel⟩
abbrev s_Works_turn : Stmt := inClass (topS 34) 4
theorem sc_Works_turn : FnScope ["self", "ticket", "deed", "event", "begun"] ["self", "ticket", "deed"] (defScope s_Works_turn) := ⟨rfl, rfl, rfl, by decide +kernel, rfl, by decide +kernel, by decide +kernel⟩
abbrev s_play : Stmt := topS 36
theorem sc_play : FnScope ["book", "deeds", "turn"] ["book", "deeds"] (defScope s_play) := ⟨rfl, rfl, rfl, by decide +kernel, rfl, by decide +kernel, by decide +kernel⟩
abbrev s_faults : Stmt := topS 37
theorem sc_faults : FnScope ["book", "deeds", "found", "index", "turn", "kind"] ["book", "deeds"] (defScope s_faults) := ⟨rfl, rfl, rfl, by decide +kernel, rfl, by decide +kernel, by decide +kernel⟩
abbrev s__turns : Stmt := topS 38
theorem sc__turns : FnScope ["book", "deeds", "works", "turns", "ticket", "deed", "turn"] ["book", "deeds"] (defScope s__turns) := ⟨rfl, rfl, rfl, by decide +kernel, rfl, by decide +kernel, by decide +kernel⟩
abbrev s__check_deeds : Stmt := topS 39
theorem sc__check_deeds : FnScope ["book", "deeds", "wrong"] ["book", "deeds"] (defScope s__check_deeds) := ⟨rfl, rfl, rfl, by decide +kernel, rfl, by decide +kernel, by decide +kernel⟩
abbrev s_Book_init : Stmt := inClass (topS 42) 0
theorem sc_Book_init : FnScope ["self", "desks", "rules", "index", "rule"] ["self", "desks", "rules"] (defScope s_Book_init) := ⟨rfl, rfl, rfl, by decide +kernel, rfl, by decide +kernel, by decide +kernel⟩
abbrev s_Book_desks : Stmt := inClass (topS 42) 1
theorem sc_Book_desks : FnScope ["self"] ["self"] (defScope s_Book_desks) := ⟨rfl, rfl, rfl, by decide +kernel, rfl, by decide +kernel, by decide +kernel⟩
abbrev s_Book_rules : Stmt := inClass (topS 42) 2
theorem sc_Book_rules : FnScope ["self"] ["self"] (defScope s_Book_rules) := ⟨rfl, rfl, rfl, by decide +kernel, rfl, by decide +kernel, by decide +kernel⟩
abbrev s_Book_len : Stmt := inClass (topS 42) 3
theorem sc_Book_len : FnScope ["self"] ["self"] (defScope s_Book_len) := ⟨rfl, rfl, rfl, by decide +kernel, rfl, by decide +kernel, by decide +kernel⟩
abbrev s_Book_getitem : Stmt := inClass (topS 42) 4
theorem sc_Book_getitem : FnScope ["self", "at"] ["self", "at"] (defScope s_Book_getitem) := ⟨rfl, rfl, rfl, by decide +kernel, rfl, by decide +kernel, by decide +kernel⟩
abbrev s_Book_iter : Stmt := inClass (topS 42) 5
theorem sc_Book_iter : FnScope ["self"] ["self"] (defScope s_Book_iter) := ⟨rfl, rfl, rfl, by decide +kernel, rfl, by decide +kernel, by decide +kernel⟩
abbrev s_Book_eq : Stmt := inClass (topS 42) 6
theorem sc_Book_eq : FnScope ["self", "other"] ["self", "other"] (defScope s_Book_eq) := ⟨rfl, rfl, rfl, by decide +kernel, rfl, by decide +kernel, by decide +kernel⟩
abbrev s_Book_add : Stmt := inClass (topS 42) 7
theorem sc_Book_add : FnScope ["self", "other"] ["self", "other"] (defScope s_Book_add) := ⟨rfl, rfl, rfl, by decide +kernel, rfl, by decide +kernel, by decide +kernel⟩
abbrev s_Book_without : Stmt := inClass (topS 42) 8
theorem sc_Book_without : FnScope ["self", "indexes"] ["self", "indexes"] (defScope s_Book_without) := ⟨rfl, rfl, rfl, by decide +kernel, rfl, by decide +kernel, by decide +kernel⟩
abbrev s_Book_exchanged : Stmt := inClass (topS 42) 9
theorem sc_Book_exchanged : FnScope ["self", "index"] ["self", "index"] (defScope s_Book_exchanged) := ⟨rfl, rfl, rfl, by decide +kernel, rfl, by decide +kernel, by decide +kernel⟩
abbrev s_Book__has : Stmt := inClass (topS 42) 10
theorem sc_Book__has : FnScope ["self", "index"] ["self", "index"] (defScope s_Book__has) := ⟨rfl, rfl, rfl, by decide +kernel, rfl, by decide +kernel, by decide +kernel⟩
abbrev s__law_pot : Stmt := topS 44
theorem sc__law_pot : FnScope ["script", "k", "cell"] ["script", "k"] (defScope s__law_pot) := ⟨rfl, rfl, rfl, by decide +kernel, rfl, by decide +kernel, by decide +kernel⟩
abbrev s__law_dip : Stmt := topS 45
theorem sc__law_dip : FnScope ["pot", "many", "found", "mixed"] ["pot", "many"] (defScope s__law_dip) := ⟨rfl, rfl, rfl, by decide +kernel, rfl, by decide +kernel, by decide +kernel⟩
abbrev s__law_name : Stmt := topS 46
theorem sc__law_name : FnScope ["pot", "letters", "size", "k"] ["pot"] (defScope s__law_name) := ⟨rfl, rfl, rfl, by decide +kernel, rfl, by decide +kernel, by decide +kernel⟩
abbrev s__law_desks : Stmt := topS 47
theorem sc__law_desks : FnScope ["pot", "least", "found", "k", "name", "one"] ["pot", "least"] (defScope s__law_desks) := ⟨rfl, rfl, rfl, by decide +kernel, rfl, by decide +kernel, by decide +kernel⟩
abbrev s__law_status : Stmt := topS 48
theorem sc__law_status : FnScope ["pot"] ["pot"] (defScope s__law_status) := ⟨rfl, rfl, rfl, by decide +kernel, rfl, by decide +kernel, by decide +kernel⟩
abbrev s__law_test : Stmt := topS 49
theorem sc__law_test : FnScope ["pot", "desks", "way", "wanted"] ["pot", "desks"] (defScope s__law_test) := ⟨rfl, rfl, rfl, by decide +kernel, rfl, by decide +kernel, by decide +kernel⟩
abbrev s__law_action : Stmt := topS 50
theorem sc__law_action : FnScope ["pot", "desks", "way"] ["pot", "desks"] (defScope s__law_action) := ⟨rfl, rfl, rfl, by decide +kernel, rfl, by decide +kernel, by decide +kernel⟩
abbrev s__law_rule : Stmt := topS 51
theorem sc__law_rule : FnScope ["pot", "desks", "events", "event", "many", "tests", "k"] ["pot", "desks", "events"] (defScope s__law_rule) := ⟨rfl, rfl, rfl, by decide +kernel, rfl, by decide +kernel, by decide +kernel⟩
abbrev s__law_deed : Stmt := topS 52
theorem sc__law_deed : FnScope ["pot", "desks", "way"] ["pot", "desks"] (defScope s__law_deed) := ⟨rfl, rfl, rfl, by decide +kernel, rfl, by decide +kernel, by decide +kernel⟩
abbrev s__law_bad : Stmt := topS 53
theorem sc__law_bad : FnScope ["pot", "desks", "odd", "desk", "some"] ["pot", "desks", "odd"] (defScope s__law_bad) := ⟨rfl, rfl, rfl, by decide +kernel, rfl, by decide +kernel, by decide +kernel⟩
abbrev s__law_refused : Stmt := topS 54
theorem sc__law_refused : FnScope ["way", "work", "acts", "found", "e", "kinds"] ["way", "work", "acts"] (defScope s__law_refused) := ⟨rfl, rfl, rfl, by decide +kernel, rfl, by decide +kernel, by decide +kernel⟩
abbrev s__law_both : Stmt := topS 55
theorem sc__law_both : FnScope ["work", "acts", "due", "ways", "way", "found"] ["work", "acts", "due"] (defScope s__law_both) := ⟨rfl, rfl, rfl, by decide +kernel, rfl, by decide +kernel, by decide +kernel⟩
abbrev s__law_any_base : Stmt := topS 56
theorem sc__law_any_base : FnScope ["work", "acts", "found", "e"] ["work", "acts"] (defScope s__law_any_base) := ⟨rfl, rfl, rfl, by decide +kernel, rfl, by decide +kernel, by decide +kernel⟩
abbrev s__law_right : Stmt := topS 57
theorem sc__law_right : FnScope ["pot", "desks", "odd", "name", "many", "rules", "k", "work", "acts", "good", "wrong", "spot", "row", "some", "other", "wrong_kinds"] ["pot"] (defScope s__law_right) := ⟨rfl, rfl, rfl, by decide +kernel, rfl, by decide +kernel, by decide +kernel⟩
abbrev s_law : Stmt := topS 58
theorem sc_law : FnScope ["script", "k"] ["script"] (defScope s_law) := ⟨rfl, rfl, rfl, by decide +kernel, rfl, by decide +kernel, by decide +kernel⟩
structure Ad where
  DeskError : Addr
  NoDesks : Addr
  NoRule : Addr
  NoDeed : Addr
  NoTicket : Addr
  Effect : Addr
  Turn : Addr
  Works : Addr
  Book : Addr
  STATUSES : Addr
  EVENTS : Addr
  TEST_FORMS : Addr
  ACTION_FORMS : Addr
  DEED_FORMS : Addr
  NoRule_init : Addr
  NoDeed_init : Addr
  NoTicket_init : Addr
structure TX (P : Program) (K : PySem.W.Frag) (mg : Str → Option Value) (Z : Ad) : Prop where
  tg_class : PySem.W.specialIn K (.builtin "object.__class__") "__get__" = some (some (.builtin "getset_descriptor.__get__"))
  tt_class : PySem.W.takesIn K (.builtin "object.__class__") = some true
  b_ValueError : mg "ValueError" = none
  b_abs : mg "abs" = none
  b_all : mg "all" = none
  b_bool : mg "bool" = none
  b_enumerate : mg "enumerate" = none
  b_int : mg "int" = none
  b_isinstance : mg "isinstance" = none
  b_len : mg "len" = none
  b_list : mg "list" = none
  b_max : mg "max" = none
  b_min : mg "min" = none
  b_range : mg "range" = none
  b_set : mg "set" = none
  b_str : mg "str" = none
  b_super : mg "super" = none
  b_tuple : mg "tuple" = none
  b_zip : mg "zip" = none
  g_LETTERS : ∃ u, mg "LETTERS" = some u ∧ RelV (.str "abcdefghijklmnopqrstuvwxyz") u
  g_LONGEST_NAME : ∃ u, mg "LONGEST_NAME" = some u ∧ RelV (.int 8) u
  g_MOST_DESKS : ∃ u, mg "MOST_DESKS" = some u ∧ RelV (.int 4) u
  g_MOST_TESTS : ∃ u, mg "MOST_TESTS" = some u ∧ RelV (.int 4) u
  g_MOST_ACTIONS : ∃ u, mg "MOST_ACTIONS" = some u ∧ RelV (.int 4) u
  g_MOST_DAYS : ∃ u, mg "MOST_DAYS" = some u ∧ RelV (.int 30) u
  g_STATUSES : mg "STATUSES" = some (.ref Z.STATUSES)
  v_STATUSES : denK K 4 (.ref Z.STATUSES) = some (.tuple [.str "new", .str "open", .str "waiting", .str "closed"])
  g_EVENTS : mg "EVENTS" = some (.ref Z.EVENTS)
  v_EVENTS : denK K 4 (.ref Z.EVENTS) = some (.tuple [.str "letter", .str "answer", .str "day", .str "moved", .str "status", .str "replied"])
  g_TEST_FORMS : mg "TEST_FORMS" = some (.ref Z.TEST_FORMS)
  v_TEST_FORMS : denK K 4 (.ref Z.TEST_FORMS) = some (.tuple [.tuple [.str "status", .str "status", .str "wanted"], .tuple [.str "desk", .str "desk", .str "wanted"], .tuple [.str "answered", .str "wanted"], .tuple [.str "marked", .str "wanted"], .tuple [.str "days", .str "days"]])
  g_ACTION_FORMS : mg "ACTION_FORMS" = some (.ref Z.ACTION_FORMS)
  v_ACTION_FORMS : denK K 4 (.ref Z.ACTION_FORMS) = some (.tuple [.tuple [.str "status", .str "status"], .tuple [.str "desk", .str "desk"], .tuple [.str "reply"], .tuple [.str "mark", .str "wanted"], .tuple [.str "stop"]])
  g_DEED_FORMS : mg "DEED_FORMS" = some (.ref Z.DEED_FORMS)
  v_DEED_FORMS : denK K 4 (.ref Z.DEED_FORMS) = some (.tuple [.tuple [.str "letter"], .tuple [.str "answer"], .tuple [.str "day"], .tuple [.str "hand", .str "desk"], .tuple [.str "set", .str "status"]])
  g_MOST_EVENTS : ∃ u, mg "MOST_EVENTS" = some u ∧ RelV (.int 50) u
  g_MOST_RULES : ∃ u, mg "MOST_RULES" = some u ∧ RelV (.int 8) u
  cl_Effect : Cls K Z.Effect
  sf_Effect : PySem.W.selfFirst K Z.Effect = true
  nf_Effect : PySem.W.notFirst K Z.Effect (.ref Z.Effect) = true
  ty_Effect : PySem.W.findIn K (.ref Z.Effect) "__class__" = some (some (.builtin "object.__class__"))
  mo_Effect : PySem.W.mroIn K Z.Effect (.type "object") = some true
  na_Effect_events : NoAttr K Z.Effect "events"
  na_Effect_acted : NoAttr K Z.Effect "acted"
  na_Effect_sent : NoAttr K Z.Effect "sent"
  na_Effect_closed_by_rule : NoAttr K Z.Effect "closed_by_rule"
  na_Effect_sent_twice : NoAttr K Z.Effect "sent_twice"
  na_Effect_status : NoAttr K Z.Effect "status"
  na_Effect_desk : NoAttr K Z.Effect "desk"
  na_Effect_answered : NoAttr K Z.Effect "answered"
  na_Effect_days : NoAttr K Z.Effect "days"
  na_Effect_marked : NoAttr K Z.Effect "marked"
  cl_Turn : Cls K Z.Turn
  sf_Turn : PySem.W.selfFirst K Z.Turn = true
  nf_Turn : PySem.W.notFirst K Z.Turn (.ref Z.Turn) = true
  ty_Turn : PySem.W.findIn K (.ref Z.Turn) "__class__" = some (some (.builtin "object.__class__"))
  mo_Turn : PySem.W.mroIn K Z.Turn (.type "object") = some true
  na_Turn_event : NoAttr K Z.Turn "event"
  na_Turn_behind : NoAttr K Z.Turn "behind"
  na_Turn_acted : NoAttr K Z.Turn "acted"
  na_Turn_sent : NoAttr K Z.Turn "sent"
  na_Turn_endless : NoAttr K Z.Turn "endless"
  na_Turn_closed_by_rule : NoAttr K Z.Turn "closed_by_rule"
  na_Turn_sent_twice : NoAttr K Z.Turn "sent_twice"
  na_Turn_kinds : NoAttr K Z.Turn "kinds"
  cl_Works : Cls K Z.Works
  sf_Works : PySem.W.selfFirst K Z.Works = true
  nf_Works : PySem.W.notFirst K Z.Works (.ref Z.Works) = true
  ty_Works : PySem.W.findIn K (.ref Z.Works) "__class__" = some (some (.builtin "object.__class__"))
  mo_Works : PySem.W.mroIn K Z.Works (.type "object") = some true
  na_Works_rulebook : NoAttr K Z.Works "rulebook"
  na_Works__rules_at : NoAttr K Z.Works "_rules_at"
  na_Works__effects : NoAttr K Z.Works "_effects"
  cl_Book : Cls K Z.Book
  sf_Book : PySem.W.selfFirst K Z.Book = true
  nf_Book : PySem.W.notFirst K Z.Book (.ref Z.Book) = true
  ty_Book : PySem.W.findIn K (.ref Z.Book) "__class__" = some (some (.builtin "object.__class__"))
  mo_Book : PySem.W.mroIn K Z.Book (.type "object") = some true
  na_Book__desks : NoAttr K Z.Book "_desks"
  na_Book__rules : NoAttr K Z.Book "_rules"
  c_DeskError : mg "DeskError" = some (.ref Z.DeskError)
  c_NoDesks : mg "NoDesks" = some (.ref Z.NoDesks)
  c_NoRule : mg "NoRule" = some (.ref Z.NoRule)
  c_NoDeed : mg "NoDeed" = some (.ref Z.NoDeed)
  c_NoTicket : mg "NoTicket" = some (.ref Z.NoTicket)
  c_Effect : mg "Effect" = some (.ref Z.Effect)
  c_Turn : mg "Turn" = some (.ref Z.Turn)
  c_Works : mg "Works" = some (.ref Z.Works)
  c_Book : mg "Book" = some (.ref Z.Book)
  m_DeskError : PySem.W.exmOne K (.ref Z.DeskError) (.ref Z.DeskError) = some true
  x_DeskError : PlainE K Z.DeskError
  m_NoDesks : PySem.W.exmOne K (.ref Z.NoDesks) (.ref Z.NoDesks) = some true
  x_NoDesks : PlainE K Z.NoDesks
  m_NoRule : PySem.W.exmOne K (.ref Z.NoRule) (.ref Z.NoRule) = some true
  x_NoRule : LowIndex.Txt P K mg Z.NoRule Z.NoRule_init
  m_NoDeed : PySem.W.exmOne K (.ref Z.NoDeed) (.ref Z.NoDeed) = some true
  x_NoDeed : LowIndex.Txt P K mg Z.NoDeed Z.NoDeed_init
  m_NoTicket : PySem.W.exmOne K (.ref Z.NoTicket) (.ref Z.NoTicket) = some true
  x_NoTicket : LowIndex.Txt P K mg Z.NoTicket Z.NoTicket_init
  q_NoDeed : ExcX K Z.NoDeed
  ki_NoDeed_NoTicket : PySem.W.kitOne K (.ref Z.NoDeed) (.ref Z.NoTicket) = some false
  ki_NoDeed_ValueError : PySem.W.kitOne K (.ref Z.NoDeed) (.type "ValueError") = some true
  ki_NoDeed_DeskError : PySem.W.kitOne K (.ref Z.NoDeed) (.ref Z.DeskError) = some true
  ki_NoDeed_NoDeed : PySem.W.kitOne K (.ref Z.NoDeed) (.ref Z.NoDeed) = some true
  q_NoTicket : ExcX K Z.NoTicket
  ki_NoTicket_NoTicket : PySem.W.kitOne K (.ref Z.NoTicket) (.ref Z.NoTicket) = some true
  ki_NoTicket_ValueError : PySem.W.kitOne K (.ref Z.NoTicket) (.type "ValueError") = some true
  ki_NoTicket_DeskError : PySem.W.kitOne K (.ref Z.NoTicket) (.ref Z.DeskError) = some true
  ki_NoTicket_NoDeed : PySem.W.kitOne K (.ref Z.NoTicket) (.ref Z.NoDeed) = some false
  n_NoTicket_NoDeed : PySem.W.exmOne K (.ref Z.NoTicket) (.ref Z.NoDeed) = some false
  n_NoDeed_NoTicket : PySem.W.exmOne K (.ref Z.NoDeed) (.ref Z.NoTicket) = some false
  n_NoDeed_DeskError : PySem.W.exmOne K (.ref Z.NoDeed) (.ref Z.DeskError) = some true
  n_NoTicket_DeskError : PySem.W.exmOne K (.ref Z.NoTicket) (.ref Z.DeskError) = some true
  f__wall : FnAt K mg "_wall" s__wall ["k"]
  f_is_whole : FnAt K mg "is_whole" s_is_whole ["value"]
  f_is_name : FnAt K mg "is_name" s_is_name ["value"]
  f_are_desks : FnAt K mg "are_desks" s_are_desks ["value"]
  f_is_rule : FnAt K mg "is_rule" s_is_rule ["value", "desks"]
  f_is_deed : FnAt K mg "is_deed" s_is_deed ["value", "desks"]
  f_wrong_deed : FnAt K mg "wrong_deed" s_wrong_deed ["deeds", "desks"]
  f_is_index : FnAt K mg "is_index" s_is_index ["value", "many"]
  f_is_word : FnAt K mg "is_word" s_is_word ["value", "words"]
  f__has_form : FnAt K mg "_has_form" s__has_form ["value", "forms", "desks"]
  f__fits : FnAt K mg "_fits" s__fits ["value", "kind", "desks"]
  in_Effect : InitAt K mg Z.Effect "Effect" "Effect.__init__" s_Effect_init ["self", "ticket"]
  mt_Effect_ticket_now : MethAt K Z.Effect "ticket_now" "Effect.ticket_now" s_Effect_ticket_now ["self"]
  mt_Effect_try_rules : MethAt K Z.Effect "try_rules" "Effect.try_rules" s_Effect_try_rules ["self", "rules"]
  mt_Effect_holds : MethAt K Z.Effect "holds" "Effect.holds" s_Effect_holds ["self", "test"]
  mt_Effect_carry_out : MethAt K Z.Effect "carry_out" "Effect.carry_out" s_Effect_carry_out ["self", "actions"]
  mt_Effect_set_status : MethAt K Z.Effect "set_status" "Effect.set_status" s_Effect_set_status ["self", "status"]
  mt_Effect_move : MethAt K Z.Effect "move" "Effect.move" s_Effect_move ["self", "desk"]
  mt_Effect_send_reply : MethAt K Z.Effect "send_reply" "Effect.send_reply" s_Effect_send_reply ["self"]
  in_Turn : InitAt K mg Z.Turn "Turn" "Turn.__init__" s_Turn_init ["self", "event", "ticket"]
  mt_Turn_report : MethAt K Z.Turn "report" "Turn.report" s_Turn_report ["self"]
  mt_Turn_run : MethAt K Z.Turn "run" "Turn.run" s_Turn_run ["self", "works"]
  mt_Turn_take : MethAt K Z.Turn "take" "Turn.take" s_Turn_take ["self", "effect"]
  mt_Turn_fault_kinds : MethAt K Z.Turn "fault_kinds" "Turn.fault_kinds" s_Turn_fault_kinds ["self"]
  in_Works : InitAt K mg Z.Works "Works" "Works.__init__" s_Works_init ["self", "book"]
  mt_Works_effect : MethAt K Z.Works "effect" "Works.effect" s_Works_effect ["self", "event", "ticket"]
  mt_Works_begun : MethAt K Z.Works "begun" "Works.begun" s_Works_begun ["self", "ticket", "deed"]
  mt_Works_run : MethAt K Z.Works "run" "Works.run" s_Works_run ["self", "event", "ticket"]
  mt_Works_turn : MethAt K Z.Works "turn" "Works.turn" s_Works_turn ["self", "ticket", "deed"]
  f_play : FnAt K mg "play" s_play ["book", "deeds"]
  f_faults : FnAt K mg "faults" s_faults ["book", "deeds"]
  f__turns : FnAt K mg "_turns" s__turns ["book", "deeds"]
  f__check_deeds : FnAt K mg "_check_deeds" s__check_deeds ["book", "deeds"]
  in_Book : InitAt K mg Z.Book "Book" "Book.__init__" s_Book_init ["self", "desks", "rules"]
  mt_Book_desks : MethAt K Z.Book "desks" "Book.desks" s_Book_desks ["self"]
  mt_Book_rules : MethAt K Z.Book "rules" "Book.rules" s_Book_rules ["self"]
  mt_Book_len : MethAt K Z.Book "__len__" "Book.__len__" s_Book_len ["self"]
  mt_Book_getitem : MethAt K Z.Book "__getitem__" "Book.__getitem__" s_Book_getitem ["self", "at"]
  mt_Book_iter : MethAt K Z.Book "__iter__" "Book.__iter__" s_Book_iter ["self"]
  mt_Book_eq : MethAt K Z.Book "__eq__" "Book.__eq__" s_Book_eq ["self", "other"]
  mt_Book_add : MethAt K Z.Book "__add__" "Book.__add__" s_Book_add ["self", "other"]
  mt_Book_without : MethAt K Z.Book "without" "Book.without" s_Book_without ["self", "indexes"]
  mt_Book_exchanged : MethAt K Z.Book "exchanged" "Book.exchanged" s_Book_exchanged ["self", "index"]
  mt_Book__has : MethAt K Z.Book "_has" "Book._has" s_Book__has ["self", "index"]
  f__law_pot : FnAt K mg "_law_pot" s__law_pot ["script", "k"]
  f__law_dip : FnAt K mg "_law_dip" s__law_dip ["pot", "many"]
  f__law_name : FnAt K mg "_law_name" s__law_name ["pot"]
  f__law_desks : FnAt K mg "_law_desks" s__law_desks ["pot", "least"]
  f__law_status : FnAt K mg "_law_status" s__law_status ["pot"]
  f__law_test : FnAt K mg "_law_test" s__law_test ["pot", "desks"]
  f__law_action : FnAt K mg "_law_action" s__law_action ["pot", "desks"]
  f__law_rule : FnAt K mg "_law_rule" s__law_rule ["pot", "desks", "events"]
  f__law_deed : FnAt K mg "_law_deed" s__law_deed ["pot", "desks"]
  f__law_bad : FnAt K mg "_law_bad" s__law_bad ["pot", "desks", "odd"]
  f__law_refused : FnAt K mg "_law_refused" s__law_refused ["way", "work", "acts"]
  f__law_both : FnAt K mg "_law_both" s__law_both ["work", "acts", "due"]
  f__law_any_base : FnAt K mg "_law_any_base" s__law_any_base ["work", "acts"]
  f__law_right : FnAt K mg "_law_right" s__law_right ["pot"]
  f_law : FnAt K mg "law" s_law ["script"]
end Ld

set_option Elab.async false
set_option linter.all false
set_option maxRecDepth 100000
set_option maxHeartbeats 4000000
/-! kinds: each def's promise. -/
namespace Ld
open PySem PySem.Spec PyProof.Rows L2
local macro_rules | `(tactic| walk_at "rd") => `(tactic| try simp only [tSeq, tNext, tRet, tRetN, tIfS, tTest, tB, tAnd, tOr, tNot, tAndV, tOrV, tNotV, tOp, tUn, tC, tVar, tCons, tNil, tCall, tCB, tAsg, tDrop, tChain, tIf, tYes, tBreak, tCont, tNever, tFld, sFld, sFldAug, tMeth, tMake, tRaiseF, tMkF, tM1, tOwn2S, tOwnIxS, tXf, tRevL, tMethS, tTup, tLst, tSl, tPart, tNoPart, tPar, tBM, tBM0, tLenSetT, tAug, gName, gTup, gCons, gNil, gStar2, gFld, gSub, rI0, rI, rU, rIxU, rIxS, rIn, rInU, rAddU, rSlU, rLenU, rTupU, rListU, rRep, rEqU_ss, rEqU_ii, rEqU_bb, rEqU_r, rNeU_ss, rNeU_ii, rNeU_bb, rNeU_r, cxOf, L2.start, wipe, List.map_cons, List.map_nil, List.length_cons, List.length_nil, List.replicate, List.cons_append, List.nil_append, List.append_nil, Nat.reduceSub, Nat.reduceAdd, List.getElem?_cons_zero, List.getElem?_cons_succ, List.set_cons_zero, List.set_cons_succ, Option.some.injEq, exists_eq_left', exists_eq_left, exists_eq, exists_and_left, V.bl.injEq, V.int.injEq, V.str.injEq, V.ref.injEq, V.ty.injEq, reduceCtorEq, false_and, and_false, exists_false, false_or, or_false, true_and, and_true, if_true, if_false, Bool.false_eq_true, ite_true, ite_false, reduceIte, decide_true, decide_false, Bool.not_true, Bool.not_false, Bool.not_eq_true, Bool.true_and, Bool.false_and, Bool.and_true, Bool.and_false, List.cons.injEq, and_assoc])
local macro_rules | `(tactic| walk_at "rn") => `(tactic| try simp only [tSeq, tNext, tRet, tRetN, tIfS, tTest, tB, tAnd, tOr, tNot, tAndV, tOrV, tNotV, tOp, tUn, tC, tVar, tCons, tNil, tCall, tCB, tAsg, tDrop, tChain, tIf, tYes, tBreak, tCont, tNever, tFld, sFld, sFldAug, tMeth, tMake, tRaiseF, tMkF, tM1, tOwn2S, tOwnIxS, tXf, tRevL, tMethS, tCallS, tMethK1, tDNewK, tRevT, Ends.cut, tDGet, rNotN, tNGet, sNPut, tNNew, tTup, tLst, tSl, tPart, tNoPart, tPar, tBM, tBM0, tLenSetT, tAug, gName, gTup, gCons, gNil, gStar2, gFld, gSub, rI0, rI, rU, rAddU_ii, tFor_rng, tLc_rng, rRep, rEqU_ss, rEqU_ii, rEqU_bb, rEqU_r, rNeU_ss, rNeU_ii, rNeU_bb, rNeU_r, cxOf, L2.start, wipe, List.map_cons, List.map_nil, List.length_cons, List.length_nil, List.replicate, List.cons_append, List.nil_append, List.append_nil, Nat.reduceSub, Nat.reduceAdd, List.getElem?_cons_zero, List.getElem?_cons_succ, List.set_cons_zero, List.set_cons_succ, Option.some.injEq, exists_eq_left', exists_eq_left, exists_eq, exists_and_left, V.bl.injEq, V.int.injEq, V.str.injEq, V.ref.injEq, V.ty.injEq, reduceCtorEq, false_and, and_false, exists_false, false_or, or_false, true_and, and_true, if_true, if_false, Bool.false_eq_true, ite_true, ite_false, reduceIte, decide_true, decide_false, Bool.not_true, Bool.not_false, Bool.not_eq_true, Bool.true_and, Bool.false_and, Bool.and_true, Bool.and_false, List.cons.injEq, and_assoc])
local macro_rules | `(tactic| walk_at "lay") => `(tactic| (apply lay_new; intro l h qq s n e; rw [← qq]; clear qq))
section
variable {P : Program} {w : World} {K : PySem.W.Frag} {mg : Str → Option Value} {base : Heap} {Z : Ad}
theorem d_is_whole (T : TX P K mg Z) : DefOk P w K mg base "is_whole" ["value"] 1 (spIs K (fun _ => True) isWholeD) := by
  refine T.f_is_whole.ok sc_is_whole spIs_len fun f cdv A outer s H vs Q E hr h => ?_
  obtain ⟨v, d, rfl, hd, _, q⟩ := h
  refine ⟨_, (pss_one (ps_ret (pe_and (pe_callB (kIsi (K := K)) (by rfl) T.b_isinstance (by decide +kernel) (pa_cons (pv 0) (pa_cons (pe_ty (n := "int") T.b_int) pa_nil))) (pe_one (pe_not (pe_callB (kIsi (K := K)) (by rfl) T.b_isinstance (by decide +kernel) (pa_cons (pv 0) (pa_cons (pe_ty (n := "bool") T.b_bool) pa_nil)))))))), ?_⟩
  walk_at "rd"
  refine isi_dp hd ?_
  walk_at "rd"
  have q := q H (Same.refl H)
  rcases isD_int d with ⟨z, rfl⟩ | ⟨z, rfl⟩ | e
  · rw [if_pos (isD_int_t z)]
    refine isi_dp hd ?_
    rw [isD_bool_i]
    exact ⟨_, rfl, q⟩
  · rw [if_pos (isD_int_b z)]
    refine isi_dp hd ?_
    rw [isD_bool_t]
    exact ⟨_, rfl, q⟩
  · rw [e, if_neg Bool.false_ne_true]
    have e2 : isWholeD d = false := by
      cases d <;> first | rfl | (rw [isD_int_t] at e; cases e)
    rw [e2] at q
    exact q
def hasD (n : Nat) : PyData → Bool
  | .int i => decide (0 ≤ i) && decide (i < n)
  | _ => false
def spIndex (K : PySem.W.Frag) : Sp := fun vs H Q _ => ∃ v d n, vs = [v, .int (n : Nat)] ∧ Dp K H v d ∧ ∀ H', Same H H' → Q (.bl (hasD n d)) H'
theorem d_is_index (T : TX P K mg Z) : DefOk P w K mg base "is_index" ["value", "many"] 2 (spIndex K) := by
  refine T.f_is_index.ok sc_is_index (by rintro _ _ _ _ ⟨_, _, _, rfl, _⟩; rfl) fun f cdv A outer s H vs Q E hr h => ?_
  obtain ⟨v, d, n, rfl, hv, q⟩ := h
  refine ⟨_, (pss_one (ps_ret (pe_and (pe_callD (d_is_whole T) hr rfl passL (pa_cons (pv 0) pa_nil)) (pe_one (pe_chain op_le op_lt pe_int (pv 0) (pv 1)))))), ?_⟩
  walk_at "rn"
  refine ⟨_, _, rfl, hv, trivial, fun H1 k1 => ⟨_, rfl, ?_⟩⟩
  have q := q H1 k1
  rcases isD_int d with ⟨z, rfl⟩ | ⟨z, rfl⟩ | e
  · cases dp_int hv
    show if true = true then _ else _
    rw [if_pos rfl]
    refine ⟨_, rfl, ?_⟩
    have hq : hasD n (.int z) = (decide (0 ≤ z) && decide (z < n)) := rfl
    rw [hq] at q
    by_cases c : 0 ≤ z
    · rw [if_pos (decide_eq_true c)]
      rw [decide_eq_true c] at q
      exact ⟨_, rfl, q⟩
    · rw [if_neg (by simp; omega)]
      rw [decide_eq_false c] at q
      exact q
  · exact q
  · have e2 : isWholeD d = false := by
      cases d <;> first | rfl | (rw [isD_int_t] at e; cases e)
    rw [e2, if_neg Bool.false_ne_true]
    cases d <;> first | exact q | (rw [isD_int_t] at e; cases e)
theorem d_is_word (T : TX P K mg Z) : DefOk P w K mg base "is_word" ["value", "words"] 1 (spWord K) := by
  refine T.f_is_word.ok sc_is_word (by rintro _ _ _ _ ⟨_, _, _, _, rfl, _⟩; rfl) fun f cdv A outer s H vs Q E hr h => ?_
  obtain ⟨v, d, a, ws, rfl, hd, hw, q⟩ := h
  refine ⟨_, (pss_one (ps_ret (pe_and (pe_callB (kIsi (K := K)) (by rfl) T.b_isinstance (by decide +kernel) (pa_cons (pv 0) (pa_cons (pe_ty (n := "str") T.b_str) pa_nil))) (pe_one (pe_cmpR (kIn (K := K)) (pv 0) (pv 1) (by rfl)))))), ?_⟩
  walk_at "rd"
  refine isi_dp hd ?_
  walk_at "rd"
  rcases isD_str d with ⟨z, rfl⟩ | e
  · rw [if_pos (isD_str_t z)]
    cases dp_str hd
    walk_at "rd"
    exact ⟨_, .inr hw, rfl, flat_all ws, by rw [inV_strs]; exact q⟩
  · rw [e, if_neg Bool.false_ne_true]
    have e2 : isWordD ws d = false := by
      cases d <;> first | rfl | (rw [isD_str_t] at e; cases e)
    rw [e2] at q
    exact q
theorem d_is_name (T : TX P K mg Z) : DefOk P w K mg base "is_name" ["value"] 1 (spIs K fitsD isNameD) := by
  refine T.f_is_name.ok sc_is_name spIs_len fun f cdv A outer s H vs Q E hr h => ?_
  obtain ⟨v, d, rfl, hd, fit, q⟩ := h
  refine ⟨_, (pss_cons (ps_if (PW.pt (pw_or (pt_not (pt_val (pe_callB (kIsi (K := K)) (by rfl) T.b_isinstance (by decide +kernel) (pa_cons (pv 0) (pa_cons (pe_ty (n := "str") T.b_str) pa_nil))))) (pw_or1 (pt_not (pt_chain op_le op_le pe_int (pe_callB (kLen (K := K)) (by rfl) T.b_len PySem.boot_len (pa_cons (pv 0) pa_nil)) (pe_globE rfl T.g_LONGEST_NAME)))))) (pss_one (ps_ret pe_bl)) pss_nil) (pss_one (ps_ret (pe_callB (kAll (K := K) rfl) (by rfl) T.b_all (by decide +kernel) (pa_cons (pe_lc (own := [("letter", 1)]) rfl sc_is_name.nd (kSeq (K := K) (pv 0)) (blkOk_by (N := ["value", "letter"]) (sc := defScope s_is_name) (own := [("letter", 1)]) (by decide +kernel)) (fun _ _ _ _ _ => (pg_name (i := 1) sc_is_name.nd rfl (by first | exact Or.inl rfl | exact Or.inr rfl))) (fun _ _ _ _ _ => pts_nil) (fun _ _ _ _ _ => (pe_cmpR (kIn (K := K)) (pv 1) (pe_globE rfl T.g_LETTERS) (by rfl)))) pa_nil))))), ?_⟩
  walk_at "rd"
  refine isi_dp hd ?_
  walk_at "rd"
  rcases isD_str d with ⟨z, rfl⟩ | e
  · rw [isD_str_t]
    cases dp_str hd
    walk_at "rd"
    refine ⟨fit, ?_⟩
    have q' : ∀ b : Bool, isNameS z = b → ∀ H', Same H H' → Q (.bl b) H' := fun b e H' s => e ▸ q H' s
    by_cases h1 : 1 ≤ z.length
    · rw [if_pos (decide_eq_true (by omega))]
      by_cases h8 : z.length ≤ 8
      · rw [decide_eq_true (show (z.length : Int) ≤ 8 by omega)]
        walk_at "rd"
        refine lcRelS (z := z) (p := fun _ => False) (fun Q q => ⟨_, rfl, q⟩) (lcAskP (f := fun i => .bl ((z.cps[i]?).any fun c => decide (c ∈ lettersS.cps.toList)))) (Nat.lt_of_le_of_lt h8 (by decide)) ?_ ?_
        · rintro D acc i c H' N hc nD e k _ q
          walk_at "rd"
          exact ⟨_, rfl, q _ _ (Keep.refl _) trivial (by rw [hc]; rfl)⟩
        · rintro D H' ys nD k _ e l r
          refine rAll_of e l r (q' _ ?_ H' k.same)
          have ea := all_at z.cps.toList fun c => decide (c ∈ lettersS.cps.toList)
          unfold isNameS
          rw [decide_eq_true h1, decide_eq_true h8, ← ea]
          simp
      · rw [decide_eq_false (show ¬ (z.length : Int) ≤ 8 by omega)]
        walk_at "rd"
        exact q' false (by unfold isNameS; simp [h8]) H (Same.refl H)
    · rw [if_neg (by simp; omega)]
      exact q' false (by unfold isNameS; simp [h1]) H (Same.refl H)
  · rw [e]
    walk_at "rd"
    have e2 : isNameD d = false := by
      cases d <;> first | rfl | (rw [isD_str_t] at e; cases e)
    have q := q H (Same.refl H)
    rw [e2] at q
    exact q
/-- desks: a tuple of one to four unlike names -/
theorem d_are_desks (T : TX P K mg Z) : DefOk P w K mg base "are_desks" ["value"] 3 (spIs K okDesks areDesksD) := by
  refine T.f_are_desks.ok sc_are_desks spIs_len fun f cdv A outer s H vs Q E hr h => ?_
  obtain ⟨v, d, rfl, hd, fit, q⟩ := h
  refine ⟨_, (pss_cons (ps_if (PW.pt (pw_or (pt_not (pt_val (pe_callB (kIsi (K := K)) (by rfl) T.b_isinstance (by decide +kernel) (pa_cons (pv 0) (pa_cons (pe_ty (n := "tuple") T.b_tuple) pa_nil))))) (pw_or1 (pt_not (pt_chain op_le op_le pe_int (pe_callB (kLen (K := K)) (by rfl) T.b_len PySem.boot_len (pa_cons (pv 0) pa_nil)) (pe_globE rfl T.g_MOST_DESKS)))))) (pss_one (ps_ret pe_bl)) pss_nil) (pss_one (ps_ret (pe_and (pe_callB (kAll (K := K) rfl) (by rfl) T.b_all (by decide +kernel) (pa_cons (pe_lc (own := [("name", 1)]) rfl sc_are_desks.nd (kSeq (K := K) (pv 0)) (blkOk_by (N := ["value", "name"]) (sc := defScope s_are_desks) (own := [("name", 1)]) (by decide +kernel)) (fun _ _ _ _ _ => (pg_name (i := 1) sc_are_desks.nd rfl (by first | exact Or.inl rfl | exact Or.inr rfl))) (fun _ _ _ _ _ => pts_nil) (fun _ _ _ _ _ => (pe_callD (d_is_name T) hr rfl passL (pa_cons (pv 1) pa_nil)))) pa_nil)) (pe_one (pe_cmpR (kEq (K := K) hr.units) (kLenSet (K := K) rfl rfl T.b_len rfl T.b_set (pv 0)) (pe_callB (kLen (K := K)) (by rfl) T.b_len PySem.boot_len (pa_cons (pv 0) pa_nil)) (nomark _))))))), ?_⟩
  walk_at "rd"
  refine isi_dp hd ?_
  walk_at "rd"
  rcases isD_tuple d with ⟨ds, rfl⟩ | e
  · rw [isD_tuple_t]
    obtain ⟨a, xs, rfl, hs, hds⟩ := dp_tup hd
    obtain ⟨fit, uniq⟩ := fit ds rfl
    have ln := dps_len hds
    walk_at "rd"
    refine ⟨xs, .inr hs, ?_⟩
    have q' : ∀ b : Bool, areDesksD (.tuple ds) = b → ∀ H', Same H H' → Q (.bl b) H' := fun b e H' s => e ▸ q H' s
    by_cases h1 : 1 ≤ ds.length
    · rw [if_pos (decide_eq_true (by omega))]
      by_cases h8 : ds.length ≤ 4
      · rw [decide_eq_true (show (xs.length : Int) ≤ 4 by omega)]
        walk_at "rd"
        refine lcRelT (xs := xs) (p := fun _ => False) (fun Q q => ⟨_, rfl, q⟩) (lcAskP (f := fun i => .bl ((ds[i]?).any isNameD))) (Nat.lt_of_le_of_lt (show xs.length ≤ 4 by omega) (by decide)) (fun H' k _ => same_seqT k.same hs) ?_ ?_
        · rintro D acc i x H' N hx nD e k _ q
          obtain ⟨d, hd, hx'⟩ := dps_get hds hx
          walk_at "rd"
          exact ⟨_, _, rfl, dpSame k.same hx', fit d (List.mem_of_getElem? hd), fun H4 s => q _ _ (Keep.of s) trivial (by rw [hd]; rfl)⟩
        · rintro D H' ys nD k _ e l r
          have q1 := all_at ds isNameD
          rw [← ln] at q1
          refine rAll_of e l r ?_
          rw [q1]
          refine ⟨_, rfl, ?_⟩
          by_cases ha : ds.all isNameD = true
          · obtain ⟨ex, el⟩ := names_vals hds ha
            rw [if_pos ha]
            walk_at "rd"
            refine ⟨strsOf ds, ex ▸ same_seqT k.same hs, by omega, uniq ha, xs, .inr (same_seqT k.same hs), ?_⟩
            rw [decide_eq_true (by omega)]
            refine q' true ?_ H' k.same
            unfold areDesksD
            simp [h1, h8, ha, uniq ha]
          · rw [if_neg ha]
            refine q' false ?_ H' k.same
            unfold areDesksD
            simp [h1, h8, ha]
      · rw [decide_eq_false (show ¬ (xs.length : Int) ≤ 4 by omega)]
        walk_at "rd"
        exact q' false (by unfold areDesksD; simp [h8]) H (Same.refl H)
    · rw [if_neg (by simp; omega)]
      exact q' false (by unfold areDesksD; simp [h1]) H (Same.refl H)
  · rw [e]
    walk_at "rd"
    have e2 : areDesksD d = false := by
      cases d <;> first | rfl | (rw [isD_tuple_t] at e; cases e)
    have q := q H (Same.refl H)
    rw [e2] at q
    exact q
theorem d__fits (T : TX P K mg Z) : DefOk P w K mg base "_fits" ["value", "kind", "desks"] 2 (spFits K) := by
  refine T.f__fits.ok sc__fits (by rintro _ _ _ _ ⟨_, _, _, _, _, rfl, _⟩; rfl) fun f cdv A outer s H vs Q E hr h => ?_
  obtain ⟨v, d, k, a, dsk, rfl, hd, ha, q⟩ := h
  refine ⟨_, (pss_cons (ps_if (pt_cmpR (kEq (K := K) hr.units) (pv 1) pe_str (nomark _)) (pss_one (ps_ret (pe_callD (d_is_word T) hr rfl passL (pa_cons (pv 0) (pa_cons (pe_globR rfl T.g_STATUSES) pa_nil))))) pss_nil) (pss_cons (ps_if (pt_cmpR (kEq (K := K) hr.units) (pv 1) pe_str (nomark _)) (pss_one (ps_ret (pe_ifExp (pt_cmpR op_isN (pv 2) pe_non (nomark _)) (pe_callD (d_is_name T) hr rfl passL (pa_cons (pv 0) pa_nil)) (pe_callD (d_is_word T) hr rfl passL (pa_cons (pv 0) (pa_cons (pv 2) pa_nil)))))) pss_nil) (pss_cons (ps_if (pt_cmpR (kEq (K := K) hr.units) (pv 1) pe_str (nomark _)) (pss_one (ps_ret (pe_callB (kIsi (K := K)) (by rfl) T.b_isinstance (by decide +kernel) (pa_cons (pv 0) (pa_cons (pe_ty (n := "bool") T.b_bool) pa_nil))))) pss_nil) (pss_one (ps_ret (pe_and (pe_callD (d_is_whole T) hr rfl passL (pa_cons (pv 0) pa_nil)) (pe_one (pe_chain op_le op_le pe_int (pv 0) (pe_globE rfl T.g_MOST_DAYS))))))))), ?_⟩
  walk_at "rd"
  have q' : ∀ b : Bool, fitsKind dsk k d = b → ∀ H', Same H H' → Q (.bl b) H' := fun b e H' s => e ▸ q H' s
  by_cases k1 : k = "status"
  · obtain ⟨b, eb, hb⟩ := dp_strs (ws := statusesS) (den_ref T.v_STATUSES H)
    cases eb
    rw [decide_eq_true k1]
    walk_at "rd"
    exact ⟨_, _, _, _, rfl, hd, hb, q' _ (by unfold fitsKind; rw [if_pos k1]) H (Same.refl H)⟩
  rw [decide_eq_false k1]
  walk_at "rd"
  by_cases k2 : k = "desk"
  · rw [decide_eq_true k2]
    walk_at "rd"
    exact ⟨_, _, _, _, rfl, hd, ha, q' _ (by unfold fitsKind; rw [if_neg k1, if_pos k2]) H (Same.refl H)⟩
  rw [decide_eq_false k2]
  walk_at "rd"
  by_cases k3 : k = "wanted"
  · rw [decide_eq_true k3]
    walk_at "rd"
    refine isi_dp hd ?_
    refine q' _ ?_ H (Same.refl H)
    unfold fitsKind
    rw [if_neg k1, if_neg k2, if_pos k3]
    cases d <;> simp [isBoolD, isD, tyD]
  rw [decide_eq_false k3]
  walk_at "rd"
  refine ⟨_, _, rfl, hd, trivial, fun H' s1 => ⟨_, rfl, ?_⟩⟩
  have e4 : fitsKind dsk k d = isDaysD d := by unfold fitsKind; rw [if_neg k1, if_neg k2, if_neg k3]
  cases d with
  | int n =>
    cases dp_int hd
    show if true = true then _ else _
    walk_at "rd"
    by_cases h1 : 1 ≤ n
    · rw [if_pos (decide_eq_true h1)]
      exact q' _ (by rw [e4]; simp [isDaysD, h1]) H' s1
    · rw [if_neg (by simpa using h1)]
      exact q' false (by rw [e4]; simp [isDaysD, h1]) H' s1
  | _ =>
    show if false = true then _ else _
    walk_at "rd"
    exact q' false (by rw [e4]; rfl) H' s1
theorem d__has_form (T : TX P K mg Z) : DefOk P w K mg base "_has_form" ["value", "forms", "desks"] 3 (spFormX K) := by
  refine T.f__has_form.ok sc__has_form (by rintro _ _ _ _ ⟨_, _, _, _, _, _, rfl, _⟩; rfl) fun f cdv A outer s H vs Q E hr h => ?_
  obtain ⟨v, d, vf, fs, a, dsk, rfl, hd, few, hf, hfs, ha, q⟩ := h
  refine ⟨_, (pss_cons (ps_if (PW.pt (pw_or (pt_not (pt_val (pe_callB (kIsi (K := K)) (by rfl) T.b_isinstance (by decide +kernel) (pa_cons (pv 0) (pa_cons (pe_ty (n := "tuple") T.b_tuple) pa_nil))))) (pw_or (pt_cmpR (kEq (K := K) hr.units) (pe_callB (kLen (K := K)) (by rfl) T.b_len PySem.boot_len (pa_cons (pv 0) pa_nil)) pe_int (nomark _)) (pw_or1 (pt_not (pt_val (pe_callB (kIsi (K := K)) (by rfl) T.b_isinstance (by decide +kernel) (pa_cons (pe_ix (kIx (K := K)) (pv 0) pe_int (fun _ _ => rfl)) (pa_cons (pe_ty (n := "str") T.b_str) pa_nil))))))))) (pss_one (ps_ret pe_bl)) pss_nil) (pss_cons (ps_for (passes_of rfl) rfl (kSeq (K := K) (pv 1)) (kStar (K := K) rfl (pg_name (i := 3) sc__has_form.nd rfl (by first | exact Or.inl rfl | exact Or.inr rfl)) (pg_name (i := 4) sc__has_form.nd rfl (by first | exact Or.inl rfl | exact Or.inr rfl))) (pss_one (ps_if (PW.pt (pw_and (pt_cmpR (kEq (K := K) hr.units) (pv 3) (pe_ix (kIx (K := K)) (pv 0) pe_int (fun _ _ => rfl)) (nomark _)) (pw_and1 (pt_cmpR (kEq (K := K) hr.units) (pe_callB (kLen (K := K)) (by rfl) T.b_len PySem.boot_len (pa_cons (pv 4) pa_nil)) (pe_op op_sub (pe_callB (kLen (K := K)) (by rfl) T.b_len PySem.boot_len (pa_cons (pv 0) pa_nil)) pe_int) (nomark _))))) (pss_one (ps_ret (pe_callB (kAll (K := K) rfl) (by rfl) T.b_all (by decide +kernel) (pa_cons (pe_lc (own := [("worth", 5), ("kind", 6)]) rfl sc__has_form.nd (kZip (K := K) rfl T.b_zip (pa_cons (pe_slice (kSl (K := K)) (pv 0) (po_some pe_int) po_none) (pa_cons (pv 4) pa_nil))) (blkOk_by (N := ["value", "forms", "desks", "word", "kinds", "worth", "kind"]) (sc := defScope s__has_form) (own := [("worth", 5), ("kind", 6)]) (by decide +kernel)) (fun _ _ _ _ _ => (kTup (K := K) (n := 2) rfl (pgs_cons (pg_name (i := 5) sc__has_form.nd rfl (by first | exact Or.inl rfl | exact Or.inr rfl)) (pgs_cons (pg_name (i := 6) sc__has_form.nd rfl (by first | exact Or.inl rfl | exact Or.inr rfl)) pgs_nil)))) (fun _ _ _ _ _ => pts_nil) (fun _ _ _ _ _ => (pe_callD (d__fits T) hr rfl passL (pa_cons (pv 5) (pa_cons (pv 6) (pa_cons (pv 2) pa_nil)))))) pa_nil)))) pss_nil))) (pss_one (ps_ret pe_bl)))), ?_⟩
  walk_at "rd"
  have q' : ∀ b : Bool, hasForm fs dsk d = b → ∀ H', Same H H' → Q (.bl b) H' := fun b e H' s => e ▸ q H' s
  refine isi_dq hd ?_
  rcases isD_tuple d with ⟨ds, rfl⟩ | e
  · rw [isD_tuple_t]
    obtain ⟨b, xs, rfl, hs, hds⟩ := dp_tup hd.tup
    have few := few ds rfl
    have ln := dps_len hds
    walk_at "rd"
    refine ⟨xs, .inr hs, ?_⟩
    cases hds with
    | nil => exact q' false rfl H (Same.refl H)
    | @cons x0 xr d0 rest h0 hr' =>
      have n0 : ¬ (((x0 :: xr).length : Int) = 0) := by simp; omega
      rw [decide_eq_false n0]
      walk_at "rd"
      refine ⟨x0 :: xr, .inr hs, x0, atI_nat (j := 0) rfl, isi_dp h0 ?_⟩
      rcases isD_str d0 with ⟨z, rfl⟩ | e0
      · rw [isD_str_t]
        cases dp_str h0
        walk_at "rd"
        obtain ⟨af, fvs, rfl, hfa, hfv⟩ := dp_tup hf
        have lf := dps_len hfv
        have lr := dps_len hr'
        refine forT (xs := fvs) (fun Q q => ⟨_, rfl, q⟩) hfa (fun i σ H' => ∃ o3 o4, σ = [some (.ref b), some (.ref af), some (.ref a), o3, o4, none, none] ∧ Same H H' ∧ ∀ f ∈ fs.take i, formIs z rest.length f = false)
          ⟨none, none, rfl, Same.refl H, fun f hm => by simp at hm⟩ (fun i σ H' _ ⟨_, _, _, s, _⟩ => same_seqT s hfa) ?_ ?_
        · rintro i x σ H' hx ⟨o3, o4, rfl, s1, no⟩
          obtain ⟨fd, hfd, hx'⟩ := dps_get hfv hx
          rw [List.getElem?_map, Option.map_eq_some_iff] at hfd
          obtain ⟨fm, hfm, rfl⟩ := hfd
          obtain ⟨fne, flen⟩ := hfs fm (List.mem_of_getElem? hfm)
          cases fm with
          | nil => exact absurd rfl fne
          | cons w0 ks =>
            obtain ⟨ax, rfl, hax⟩ := dp_strs hx'
            walk_at "rd"
            refine ⟨.str w0, ks.map V.str, same_seqT s1 hax, by simpa using flen, fun D hD => ?_⟩
            have s2 : Same H (upd H' D (.lst (ks.map V.str))) := Same.new s1 (s1.free hD)
            refine ⟨_, .inr (same_seqT s2 hs), _, atI_nat (j := 0) rfl, ?_⟩
            walk_at "rd"
            have last : ∀ g, g ∈ fs.take (i + 1) → formIs z rest.length (w0 :: ks) = false → formIs z rest.length g = false := fun g hg e => by
              rw [List.take_succ_eq_append_getElem (List.getElem?_eq_some_iff.mp hfm).1, List.mem_append, List.mem_singleton] at hg
              rcases hg with hg | hg
              · exact no g hg
              · rw [hg, (List.getElem?_eq_some_iff.mp hfm).2]
                exact e
            by_cases hw : w0 = z
            · rw [decide_eq_true hw]
              walk_at "rd"
              refine ⟨_, .inl (SqL.of upd_same), _, .inr (same_seqT s2 hs), ?_⟩
              by_cases hn : ks.length = rest.length
              · rw [decide_eq_true (by simp; omega)]
                walk_at "rd"
                refine tLc_of (.inr ?_)
                show tCons _ _ _ _ _
                walk_at "rd"
                refine .inr (.inl (sl_tail (same_seqT s2 hs) fun p hp => ?_))
                have s3 := Same.new (o := .tup xr) s2 (s2.free hp)
                have hD3 : upd (upd H' D (.lst (ks.map V.str))) p (.tup xr) D = some (.lst (ks.map V.str)) := by
                  rw [upd_ne (ne_of_none upd_same hp)]
                  exact upd_same
                walk_at "rd"
                refine ⟨xr, SqT.of upd_same, ks.map V.str, SqL.of hD3, lcRelZt (n := rest.length) (by rw [List.length_map, lr, hn, Nat.min_self]) (lcAskP (f := fun i => .bl (((rest.zip ks)[i]?).any fun p => fitsKind dsk p.2 p.1)) |> fun L => ⟨L.at_, L.ini, L.lay, L.st⟩) (Nat.lt_of_le_of_lt (show rest.length ≤ 1000 by simp at few; omega) (by decide)) (fun H4 s4 => ⟨same_seqT s4 (SqT.of upd_same), s4.seq (SqL.of hD3)⟩) ?_ ?_⟩
                · rintro E' acc j x y H4 T' N ex ey nE eE s4 hT r
                  rw [List.getElem?_map, Option.map_eq_some_iff] at ey
                  obtain ⟨kj, ekj, rfl⟩ := ey
                  obtain ⟨dj, edj, hx3⟩ := dps_get hr' ex
                  walk_at "rd"
                  exact ⟨_, SqT.of hT, rfl, _, _, rfl, _, _, rfl, rfl, _, _, _, _, _, rfl, dpSame (s3.trans s4) hx3, same_seqT (s3.trans s4) ha, fun H5 s5 => r _ _ s5 (by rw [List.getElem?_zip_eq_some.mpr (show rest[j]? = some (dj, kj).1 ∧ ks[j]? = some (dj, kj).2 from ⟨edj, ekj⟩)]; rfl)⟩
                · rintro E' H4 zs nE s4 e4 l4 r4
                  refine rAll_of e4 l4 r4 ?_
                  rw [fits_at dsk rest ks hn]
                  refine q' _ ?_ H4 (s3.trans s4)
                  show (match fs.find? (formIs z rest.length) with | some f => (rest.zip f.tail).all fun p => fitsKind dsk p.2 p.1 | none => false) = _
                  rw [find_at no hfm (by simp [formIs, hw, hn])]
                  rfl
              · rw [decide_eq_false (by simp; omega)]
                walk_at "rd"
                exact ⟨s2, fun g hg => last g hg (by simp [formIs, hn])⟩
            · rw [decide_eq_false hw]
              walk_at "rd"
              exact ⟨s2, fun g hg => last g hg (by simp [formIs, hw])⟩
        · rintro σ H' ⟨o3, o4, rfl, s1, no⟩
          walk_at "rd"
          refine q' false ?_ H' s1
          show (match fs.find? (formIs z rest.length) with | some f => _ | none => false) = false
          rw [List.find?_eq_none.mpr fun f hm => by
            have e := no f (by rw [lf, List.length_map, List.take_length]; exact hm)
            rw [e]
            exact Bool.false_ne_true]
      · rw [e0]
        walk_at "rd"
        exact q' false (by cases d0 <;> first | rfl | (rw [isD_str_t] at e0; cases e0)) H (Same.refl H)
  · rw [e]
    walk_at "rd"
    exact q' false (by cases d <;> first | rfl | (rw [isD_tuple_t] at e; cases e)) H (Same.refl H)
theorem d_is_deed (T : TX P K mg Z) : DefOk P w K mg base "is_deed" ["value", "desks"] 4 (spDeskX K okForm isDeedD) := by
  refine T.f_is_deed.ok sc_is_deed (by rintro _ _ _ _ ⟨_, _, _, _, rfl, _⟩; rfl) fun f cdv A outer s H vs Q E hr h => ?_
  obtain ⟨v, d, a, dsk, rfl, hd, few, ha, q⟩ := h
  refine ⟨_, (pss_one (ps_ret (pe_callD (d__has_form T) hr rfl passL (pa_cons (pv 0) (pa_cons (pe_globR rfl T.g_DEED_FORMS) (pa_cons (pv 1) pa_nil)))))), ?_⟩
  walk_at "rd"
  exact ⟨_, _, _, _, _, _, rfl, hd, few, (show Dp K H _ (formsD deedForms) from den_ref T.v_DEED_FORMS H), forms_ok.2.2, ha, q⟩
theorem d_is_rule (T : TX P K mg Z) : DefOk P w K mg base "is_rule" ["value", "desks"] 4 (spDesk K okRule isRuleD) := by
  refine T.f_is_rule.ok sc_is_rule spDesk_len fun f cdv A outer s H vs Q E hr h => ?_
  obtain ⟨v, d, a, dsk, rfl, hd, ok, ha, q⟩ := h
  refine ⟨_, (pss_cons (ps_if (PW.pt (pw_or (pt_not (pt_val (pe_callB (kIsi (K := K)) (by rfl) T.b_isinstance (by decide +kernel) (pa_cons (pv 0) (pa_cons (pe_ty (n := "tuple") T.b_tuple) pa_nil))))) (pw_or1 (pt_cmpR (kNe (K := K) hr.units) (pe_callB (kLen (K := K)) (by rfl) T.b_len PySem.boot_len (pa_cons (pv 0) pa_nil)) pe_int (nomark _))))) (pss_one (ps_ret pe_bl)) pss_nil) (pss_cons (ps_asg (pv 0) (kTup (K := K) (n := 3) rfl (pgs_cons (pg_name (i := 2) sc_is_rule.nd rfl (by first | exact Or.inl rfl | exact Or.inr rfl)) (pgs_cons (pg_name (i := 3) sc_is_rule.nd rfl (by first | exact Or.inl rfl | exact Or.inr rfl)) (pgs_cons (pg_name (i := 4) sc_is_rule.nd rfl (by first | exact Or.inl rfl | exact Or.inr rfl)) pgs_nil))))) (pss_one (ps_ret (pe_and (pe_callD (d_is_word T) hr rfl passL (pa_cons (pv 2) (pa_cons (pe_globR rfl T.g_EVENTS) pa_nil))) (pe_and (pe_callB (kIsi (K := K)) (by rfl) T.b_isinstance (by decide +kernel) (pa_cons (pv 3) (pa_cons (pe_ty (n := "tuple") T.b_tuple) pa_nil))) (pe_and (pe_cmpR op_le (pe_callB (kLen (K := K)) (by rfl) T.b_len PySem.boot_len (pa_cons (pv 3) pa_nil)) (pe_globE rfl T.g_MOST_TESTS) (nomark _)) (pe_and (pe_callB (kAll (K := K) rfl) (by rfl) T.b_all (by decide +kernel) (pa_cons (pe_lc (own := [("test", 5)]) rfl sc_is_rule.nd (kSeq (K := K) (pv 3)) (blkOk_by (N := ["value", "desks", "event", "tests", "actions", "test", "action"]) (sc := defScope s_is_rule) (own := [("test", 5)]) (by decide +kernel)) (fun _ _ _ _ _ => (pg_name (i := 5) sc_is_rule.nd rfl (by first | exact Or.inl rfl | exact Or.inr rfl))) (fun _ _ _ _ _ => pts_nil) (fun _ _ _ _ _ => (pe_callD (d__has_form T) hr rfl passL (pa_cons (pv 5) (pa_cons (pe_globR rfl T.g_TEST_FORMS) (pa_cons (pv 1) pa_nil)))))) pa_nil)) (pe_and (pe_callB (kIsi (K := K)) (by rfl) T.b_isinstance (by decide +kernel) (pa_cons (pv 4) (pa_cons (pe_ty (n := "tuple") T.b_tuple) pa_nil))) (pe_and (pe_chain op_le op_le pe_int (pe_callB (kLen (K := K)) (by rfl) T.b_len PySem.boot_len (pa_cons (pv 4) pa_nil)) (pe_globE rfl T.g_MOST_ACTIONS)) (pe_one (pe_callB (kAll (K := K) rfl) (by rfl) T.b_all (by decide +kernel) (pa_cons (pe_lc (own := [("action", 6)]) rfl sc_is_rule.nd (kSeq (K := K) (pv 4)) (blkOk_by (N := ["value", "desks", "event", "tests", "actions", "test", "action"]) (sc := defScope s_is_rule) (own := [("action", 6)]) (by decide +kernel)) (fun _ _ _ _ _ => (pg_name (i := 6) sc_is_rule.nd rfl (by first | exact Or.inl rfl | exact Or.inr rfl))) (fun _ _ _ _ _ => pts_nil) (fun _ _ _ _ _ => (pe_callD (d__has_form T) hr rfl passL (pa_cons (pv 6) (pa_cons (pe_globR rfl T.g_ACTION_FORMS) (pa_cons (pv 1) pa_nil)))))) pa_nil))))))))))))), ?_⟩
  walk_at "rd"
  have q' : ∀ b : Bool, isRuleD dsk d = b → ∀ H', Same H H' → Q (.bl b) H' := fun b e H' s => e ▸ q H' s
  refine isi_dp hd ?_
  rcases isD_tuple d with ⟨ds, rfl⟩ | e
  · rw [isD_tuple_t]
    obtain ⟨b, xs, rfl, hs, hds⟩ := dp_tup hd
    have ln := dps_len hds
    walk_at "rd"
    refine ⟨xs, .inr hs, ?_⟩
    by_cases h3 : ds.length = 3
    · rw [decide_eq_true (by omega)]
      walk_at "rd"
      refine ⟨xs, hs, by omega, ?_⟩
      cases hds with
      | nil => cases h3
      | @cons v0 _ d0 _ h0 hds =>
      cases hds with
      | nil => cases h3
      | @cons v1 _ d1 _ h1 hds =>
      cases hds with
      | nil => cases h3
      | @cons v2 _ d2 _ h2 hds =>
      cases hds with
      | @cons _ _ _ _ _ hds => simp at h3
      | nil =>
        refine ⟨_, _, rfl, _, _, rfl, _, _, rfl, rfl, ?_⟩
        obtain ⟨be, eb, hbe⟩ := dp_strs (ws := eventsS) (den_ref T.v_EVENTS H)
        cases eb
        refine ⟨_, _, _, _, rfl, h0, hbe, _, rfl, ?_⟩
        by_cases ev : isWordD eventsS d0 = true
        · rw [if_pos ev]
          refine isi_dp h1 ⟨_, rfl, ?_⟩
          rcases isD_tuple d1 with ⟨ts, rfl⟩ | e1
          · rw [isD_tuple_t]
            obtain ⟨b1, x1, rfl, hs1, hds1⟩ := dp_tup h1
            have ln1 := dps_len hds1
            have okT := ok.1 d0 ts d2 rfl
            walk_at "rd"
            refine ⟨x1, .inr hs1, ?_⟩
            by_cases c1 : ts.length ≤ 4
            · rw [decide_eq_true (by omega)]
              walk_at "rd"
              refine lcRelT (xs := x1) (fun Q q => ⟨_, rfl, q⟩) (lcAskP (f := fun i => .bl ((ts[i]?).any (hasForm testForms dsk)))) (Nat.lt_of_le_of_lt (show x1.length ≤ 4 by omega) (by decide)) (fun H' k _ => same_seqT k.same hs1) ?_ ?_
              · rintro D acc i x H' N hx nD e k _ r
                obtain ⟨d, hd, hx'⟩ := dps_get hds1 hx
                walk_at "rd"
                exact ⟨_, _, _, _, _, _, rfl, .of (dpSame k.same hx'), fun ds e => okT d (List.mem_of_getElem? hd) ds e, (show Dp K H' _ (formsD testForms) from den_ref T.v_TEST_FORMS H'), forms_ok.1, same_seqT k.same ha, fun H4 s => r _ _ (Keep.of s) trivial (by rw [hd]; rfl)⟩
              · rintro D H1 ys nD k1 _ e l r
                have q1 := all_at ts (hasForm testForms dsk)
                rw [← ln1] at q1
                refine rAll_of e l r ?_
                rw [q1]
                refine ⟨_, rfl, ?_⟩
                by_cases c2 : ts.all (hasForm testForms dsk) = true
                · rw [if_pos c2]
                  refine isi_dp (dpSame k1.same h2) ⟨_, rfl, ?_⟩
                  rcases isD_tuple d2 with ⟨as, rfl⟩ | e2
                  · rw [isD_tuple_t]
                    obtain ⟨b2, x2, rfl, hs2, hds2⟩ := dp_tup h2
                    have ln2 := dps_len hds2
                    have okA := ok.2 d0 (.tuple ts) as rfl
                    walk_at "rd"
                    refine ⟨x2, .inr (same_seqT k1.same hs2), ?_⟩
                    by_cases c3 : 1 ≤ as.length
                    · rw [if_pos (decide_eq_true (by omega))]
                      by_cases c4 : as.length ≤ 4
                      · rw [if_pos (decide_eq_true (by omega))]
                        refine lcRelT (xs := x2) (fun Q q => ⟨_, rfl, q⟩) (lcAskP (f := fun i => .bl ((as[i]?).any (hasForm actionForms dsk)))) (Nat.lt_of_le_of_lt (show x2.length ≤ 4 by omega) (by decide)) (fun H' k _ => same_seqT (k1.same.trans k.same) hs2) ?_ ?_
                        · rintro D acc i x H' N hx nD e k _ r
                          obtain ⟨d, hd, hx'⟩ := dps_get hds2 hx
                          walk_at "rd"
                          exact ⟨_, _, _, _, _, _, rfl, .of (dpSame (k1.same.trans k.same) hx'), fun ds e => okA d (List.mem_of_getElem? hd) ds e, (show Dp K H' _ (formsD actionForms) from den_ref T.v_ACTION_FORMS H'), forms_ok.2.1, same_seqT (k1.same.trans k.same) ha, fun H4 s => r _ _ (Keep.of s) trivial (by rw [hd]; rfl)⟩
                        · rintro D H2 ys nD k2 _ e l r
                          have q2 := all_at as (hasForm actionForms dsk)
                          rw [← ln2] at q2
                          refine rAll_of e l r ?_
                          rw [q2]
                          exact q' _ (by simp [isRuleD, ev, c1, c2, c3, c4]) H2 (k1.same.trans k2.same)
                      · rw [if_neg (by simp; omega)]
                        exact q' false (by simp [isRuleD, c4]) H1 k1.same
                    · rw [if_neg (by simp; omega)]
                      exact q' false (by simp [isRuleD, c3]) H1 k1.same
                  · rw [e2]
                    walk_at "rd"
                    exact q' false (by cases d2 <;> first | rfl | (rw [isD_tuple_t] at e2; cases e2)) H1 k1.same
                · rw [if_neg c2]
                  refine q' false ?_ H1 k1.same
                  unfold isRuleD
                  split
                  · rename_i e
                    simp only [PyData.tuple.injEq, List.cons.injEq, and_true] at e
                    obtain ⟨_, e, _⟩ := e
                    subst e
                    simp [c2]
                  · rfl
            · rw [decide_eq_false (by omega)]
              walk_at "rd"
              refine q' false ?_ H (Same.refl H)
              unfold isRuleD
              split
              · rename_i e
                simp only [PyData.tuple.injEq, List.cons.injEq, and_true] at e
                obtain ⟨_, e, _⟩ := e
                subst e
                simp [c1]
              · rfl
          · rw [e1]
            walk_at "rd"
            exact q' false (by cases d1 <;> first | rfl | (rw [isD_tuple_t] at e1; cases e1)) H (Same.refl H)
        · rw [if_neg ev]
          refine q' false ?_ H (Same.refl H)
          unfold isRuleD
          split
          · rename_i e
            simp only [PyData.tuple.injEq, List.cons.injEq, and_true] at e
            obtain ⟨e, _⟩ := e
            subst e
            simp [ev]
          · rfl
    · rw [decide_eq_false (by omega)]
      walk_at "rd"
      refine q' false ?_ H (Same.refl H)
      unfold isRuleD
      split
      · rename_i e
        injection e with e
        rw [e] at h3
        exact absurd rfl h3
      · rfl
  · rw [e]
    walk_at "rd"
    exact q' false (by cases d <;> first | rfl | (rw [isD_tuple_t] at e; cases e)) H (Same.refl H)
end
end Ld

set_option Elab.async false
set_option linter.all false
set_option maxRecDepth 100000
set_option maxHeartbeats 4000000
/-! Book: made, asked, put together. -/
namespace Ld
open PySem PySem.Spec PyProof.Rows L2
local macro_rules | `(tactic| walk_at "rd") => `(tactic| try simp only [tSeq, tNext, tRet, tRetN, tIfS, tTest, tB, tAnd, tOr, tNot, tAndV, tOrV, tNotV, tOp, tUn, tC, tVar, tCons, tNil, tCall, tCB, tAsg, tDrop, tChain, tIf, tYes, tBreak, tCont, tNever, tFld, sFld, sFldAug, tMeth, tMake, tRaiseF, tMkF, tM1, tOwn2S, tOwnIxS, tXf, tRevL, tMethS, tTup, tLst, tSl, tPart, tNoPart, tPar, tBM, tBM0, tLenSetT, tAug, gName, gTup, gCons, gNil, gStar2, gFld, gSub, rI0, rI, rU, rIxU, rIxS, rIn, rInU, rAddU, rSlU, rLenU, rTupU, rListU, rRep, rEqU_ss, rEqU_ii, rEqU_bb, rEqU_r, rNeU_ss, rNeU_ii, rNeU_bb, rNeU_r, cxOf, L2.start, wipe, List.map_cons, List.map_nil, List.length_cons, List.length_nil, List.replicate, List.cons_append, List.nil_append, List.append_nil, Nat.reduceSub, Nat.reduceAdd, List.getElem?_cons_zero, List.getElem?_cons_succ, List.set_cons_zero, List.set_cons_succ, Option.some.injEq, exists_eq_left', exists_eq_left, exists_eq, exists_and_left, V.bl.injEq, V.int.injEq, V.str.injEq, V.ref.injEq, V.ty.injEq, reduceCtorEq, false_and, and_false, exists_false, false_or, or_false, true_and, and_true, if_true, if_false, Bool.false_eq_true, ite_true, ite_false, reduceIte, decide_true, decide_false, Bool.not_true, Bool.not_false, Bool.not_eq_true, Bool.true_and, Bool.false_and, Bool.and_true, Bool.and_false, List.cons.injEq, and_assoc])
local macro_rules | `(tactic| walk_at "rn") => `(tactic| try simp only [tSeq, tNext, tRet, tRetN, tIfS, tTest, tB, tAnd, tOr, tNot, tAndV, tOrV, tNotV, tOp, tUn, tC, tVar, tCons, tNil, tCall, tCB, tAsg, tDrop, tChain, tIf, tYes, tBreak, tCont, tNever, tFld, sFld, sFldAug, tMeth, tMake, tRaiseF, tMkF, tM1, tOwn2S, tOwnIxS, tXf, tRevL, tMethS, tCallS, tMethK1, tDNewK, tRevT, Ends.cut, tDGet, rNotN, tNGet, sNPut, tNNew, tTup, tLst, tSl, tPart, tNoPart, tPar, tBM, tBM0, tLenSetT, tAug, gName, gTup, gCons, gNil, gStar2, gFld, gSub, rI0, rI, rU, rAddU_ii, tFor_rng, tLc_rng, rRep, rEqU_ss, rEqU_ii, rEqU_bb, rEqU_r, rNeU_ss, rNeU_ii, rNeU_bb, rNeU_r, cxOf, L2.start, wipe, List.map_cons, List.map_nil, List.length_cons, List.length_nil, List.replicate, List.cons_append, List.nil_append, List.append_nil, Nat.reduceSub, Nat.reduceAdd, List.getElem?_cons_zero, List.getElem?_cons_succ, List.set_cons_zero, List.set_cons_succ, Option.some.injEq, exists_eq_left', exists_eq_left, exists_eq, exists_and_left, V.bl.injEq, V.int.injEq, V.str.injEq, V.ref.injEq, V.ty.injEq, reduceCtorEq, false_and, and_false, exists_false, false_or, or_false, true_and, and_true, if_true, if_false, Bool.false_eq_true, ite_true, ite_false, reduceIte, decide_true, decide_false, Bool.not_true, Bool.not_false, Bool.not_eq_true, Bool.true_and, Bool.false_and, Bool.and_true, Bool.and_false, List.cons.injEq, and_assoc])
local macro_rules | `(tactic| walk_at "lay") => `(tactic| (apply lay_new; intro l h qq s n e; rw [← qq]; clear qq))
section
variable {P : Program} {w : World} {K : PySem.W.Frag} {mg : Str → Option Value} {base : Heap} {Z : Ad}
/-- the first item that is no rule, or the ninth -/
def firstBad (dsk : List Str) : Nat → List PyData → Option Nat
  | _, [] => none
  | i, r :: rs => if 8 ≤ i ∨ isRuleD dsk r = false then some i else firstBad dsk (i + 1) rs
inductive BkR where
  | ok (dsk : List Str) (rs : List PyData)
  | noDesks
  | noRule (d : PyData)
def desksOf : PyData → List Str
  | .tuple ds => strsOf ds
  | _ => []
def bookD (d r : PyData) : BkR := if areDesksD d then match r with
    | .tuple rs => match firstBad (desksOf d) 0 rs with
      | some i => .noRule (.int i)
      | none => .ok (desksOf d) rs
    | _ => .noRule (.int 0)
  else .noDesks
def goodBook (dsk : List Str) (rs : List PyData) : Prop := areDesksD (.tuple (dsk.map PyData.str)) = true ∧ firstBad dsk 0 rs = none
/-- a book -/
def BookIs (K : PySem.W.Frag) (C : Addr) (H : Hp) (b : V) (dsk : List Str) (rs : List PyData) : Prop :=
  ∃ a dx vd vr, b = .ref a ∧ H a = some (.ins C dx [("_desks", vd), ("_rules", vr)]) ∧ Dp K H vd (.tuple (dsk.map PyData.str)) ∧ Dp K H vr (.tuple rs) ∧ goodBook dsk rs
/-- what is raised: NoRule with a value; NoDesks -/
def NoRuleE (K : PySem.W.Frag) (NR : Addr) (H : Hp) (E : XK) (d : PyData) : Prop := ∀ H' a v, Same H H' → H' a = some (.xd [("index", v)]) → Dp K H' v d → E (.ref NR) (some a) H'
def NoDesksE (ND : Addr) (H : Hp) (E : XK) : Prop := ∀ H', Same H H' → E (.ref ND) none H'
def okRules (r : PyData) : Prop := ∀ rs, r = .tuple rs → rs.length ≤ 1000 ∧ ∀ e ∈ rs, okRule e
def spInit (K : PySem.W.Frag) (C ND NR : Addr) : Sp := fun vs H Q E => ∃ x dx vd vr d r, vs = [.ref x, vd, vr] ∧ H x = some (.ins C dx []) ∧ Dp K H vd d ∧ Dp K H vr r ∧ okDesks d ∧ okRules r ∧
  match bookD d r with
  | .ok dsk rs => ∀ H', Keep (fun b => b = x) H H' → H' x = some (.ins C dx [("_desks", vd), ("_rules", vr)]) → Q .non H'
  | .noDesks => NoDesksE ND H E
  | .noRule i => NoRuleE K NR H E i
theorem strs_of : ∀ ds : List PyData, ds.all isNameD = true → ds = (strsOf ds).map PyData.str
  | [], _ => rfl
  | d :: ds, h => by
    rw [List.all_cons, Bool.and_eq_true] at h
    obtain ⟨h1, h2⟩ := h
    cases d <;> first | exact Bool.noConfusion h1 | skip
    show _ = _ :: (strsOf ds).map PyData.str
    rw [← strs_of ds h2]
theorem desks_of {d : PyData} (h : areDesksD d = true) : d = .tuple ((desksOf d).map PyData.str) := by
  cases d with
  | tuple ds =>
    unfold areDesksD at h
    simp only [Bool.and_eq_true] at h
    show PyData.tuple ds = .tuple ((strsOf ds).map PyData.str)
    rw [← strs_of ds h.1.2]
  | _ => exact Bool.noConfusion h
theorem raised {K : PySem.W.Frag} {NR : Addr} {H H1 : Hp} {E : XK} {d : PyData} {v : V} (q : NoRuleE K NR H E d) (k : Same H H1) (hv : Dp K H1 v d) (a : Addr) (n : H1 a = none) : E (.ref NR) (some a) (upd H1 a (.xd [("index", v)])) :=
  q _ a v (Same.put k n) upd_same (dpSame (Same.put (Same.refl H1) n) hv)
theorem mk_Book (T : TX P K mg Z) : MakeOk P w K mg base Z.Book "Book" ["self", "desks", "rules"] 5 (spInit K Z.Book Z.NoDesks Z.NoRule) := by
  refine T.in_Book.ok sc_Book_init (by rintro _ _ _ _ ⟨_, _, _, _, _, _, rfl, _⟩; rfl) fun f cdv A outer s H vs Q E hr h => ?_
  obtain ⟨x, dx, vd, vr, d, r, rfl, hx, hd, hv, od, ok, q⟩ := h
  refine ⟨_, (pss_cons (ps_if (pt_not (pt_val (pe_callD (d_are_desks T) hr rfl passL (pa_cons (pv 1) pa_nil)))) (pss_one (ps_raise rfl (takes_of rfl rfl rfl rfl) (pmk_own PySem.F.excBase_ValueError T.x_NoDesks.q T.c_NoDesks T.x_NoDesks.k (raises_own T.x_NoDesks.e T.x_NoDesks.t) rfl))) pss_nil) (pss_cons (ps_if (pt_not (pt_val (pe_callB (kIsi (K := K)) (by rfl) T.b_isinstance (by decide +kernel) (pa_cons (pv 2) (pa_cons (pe_ty (n := "tuple") T.b_tuple) pa_nil))))) (pss_one (LowIndex.ps_raise rfl T.x_NoRule T.c_NoRule hr (takes_of rfl rfl rfl rfl) (pa_cons pe_int pa_nil))) pss_nil) (pss_cons (ps_for (passes_of rfl) rfl (kEnum (K := K) rfl T.b_enumerate (pa_cons (pv 2) pa_nil)) (kTup (K := K) (n := 2) rfl (pgs_cons (pg_name (i := 3) sc_Book_init.nd rfl (by first | exact Or.inl rfl | exact Or.inr rfl)) (pgs_cons (pg_name (i := 4) sc_Book_init.nd rfl (by first | exact Or.inl rfl | exact Or.inr rfl)) pgs_nil))) (pss_one (ps_if (PW.pt (pw_or (pt_cmpR op_ge (pv 3) (pe_globE rfl T.g_MOST_RULES) (nomark _)) (pw_or1 (pt_not (pt_val (pe_callD (d_is_rule T) hr rfl passL (pa_cons (pv 4) (pa_cons (pv 1) pa_nil)))))))) (pss_one (LowIndex.ps_raise rfl T.x_NoRule T.c_NoRule hr (takes_of rfl rfl rfl rfl) (pa_cons (pv 3) pa_nil))) pss_nil))) (pss_cons (ps_fld (pv 0) (pv 1) rfl) (pss_one (ps_fld (pv 0) (pv 2) rfl)))))), ?_⟩
  walk_at "rd"
  refine ⟨_, _, rfl, hd, od, fun H1 k1 => ?_⟩
  by_cases cd : areDesksD d = true
  · rw [cd]
    walk_at "rd"
    have ed := desks_of cd
    have hd' := hd
    rw [ed] at hd'
    obtain ⟨ad, rfl, hds⟩ := dp_strs hd'
    unfold bookD at q
    rw [if_pos cd] at q
    refine isi_dp (dpSame k1 hv) ⟨_, rfl, ?_⟩
    rcases isD_tuple r with ⟨rs, rfl⟩ | e
    · rw [isD_tuple_t]
      walk_at "rd"
      obtain ⟨ar, xs, rfl, hrs, hda⟩ := dp_tup hv
      have ln := dps_len hda
      obtain ⟨lr, okr⟩ := ok rs rfl
      dsimp only at q
      refine forEt (xs := xs) (a := ar) (fun Q q => ⟨_, rfl, q⟩) (same_seqT k1 hrs) (fun i σ H' => (∃ u v, σ = [some (.ref x), some (.ref ad), some (.ref ar), u, v]) ∧ Same H H' ∧ firstBad (desksOf d) 0 rs = firstBad (desksOf d) i (rs.drop i)) ⟨⟨_, _, rfl⟩, k1, by rw [List.drop_zero]⟩ (fun i σ H' _ p => same_seqT p.2.1 hrs) ?_ ?_
      · rintro i y σ H' N hy ⟨⟨u, v, rfl⟩, k, e⟩ n
        obtain ⟨d1, hd1, hy'⟩ := dps_get hda hy
        walk_at "rd"
        have dr : rs.drop i = d1 :: rs.drop (i + 1) := by
          obtain ⟨hi, e⟩ := List.getElem?_eq_some_iff.mp hd1
          rw [← e]
          exact List.drop_eq_getElem_cons hi
        have k2 : Same H (upd H' N (.tup [.int (i : Nat), y])) := Same.put k n
        have bad : (8 ≤ i ∨ isRuleD (desksOf d) d1 = false) → firstBad (desksOf d) 0 rs = some i := fun c => by
          rw [e, dr]
          unfold firstBad
          rw [if_pos c]
        have rz : (8 ≤ i ∨ isRuleD (desksOf d) d1 = false) → ∀ H2, Same H H2 → ∀ a, H2 a = none → E (.ref Z.NoRule) (some a) (upd H2 a (.xd [("index", .int (i : Nat))])) := fun c H2 k2 a na => by
          rw [bad c] at q
          exact raised (d := .int (i : Nat)) q k2 (.int _) a na
        refine ⟨_, .inl (.inl upd_same), rfl, _, _, rfl, _, _, rfl, rfl, _, rfl, ?_⟩
        by_cases c8 : 8 ≤ i
        · rw [if_pos (decide_eq_true (by omega))]
          exact rz (.inl c8) _ k2
        · rw [if_neg (by simp; omega)]
          refine ⟨_, _, _, _, rfl, dpSame k2 hy', okr d1 (List.mem_of_getElem? hd1), same_seqT k2 hds, fun H3 k3 => ?_⟩
          refine ⟨_, rfl, ?_⟩
          by_cases cr : isRuleD (desksOf d) d1 = true
          · rw [cr]
            refine ⟨⟨_, rfl⟩, k2.trans k3, ?_⟩
            rw [e, dr]
            conv => lhs; unfold firstBad
            rw [if_neg (by rw [cr]; simp; omega)]
          · rw [Bool.not_eq_true] at cr
            rw [cr]
            exact rz (.inr cr) H3 (k2.trans k3)
      · rintro σ H' ⟨⟨u, v, rfl⟩, k, e⟩
        walk_at "rd"
        have good : firstBad (desksOf d) 0 rs = none := by
          rw [e, List.drop_of_length_le (by omega)]
          rfl
        rw [good] at q
        refine ⟨_, _, _, k _ _ hx, T.cl_Book, T.na_Book__desks, by decide, _, _, _, upd_same, T.cl_Book, T.na_Book__rules, by simp [putF], ?_⟩
        refine q _ (fun b o nb e => ?_) upd_same
        rw [upd_ne nb, upd_ne nb]
        exact k b o e
    · rw [e]
      walk_at "rd"
      intro a n
      refine raised (K := K) (d := .int 0) ?_ k1 (.int 0) a n
      cases r <;> first | exact q | (rw [isD_tuple_t] at e; cases e)
  · rw [Bool.not_eq_true] at cd
    rw [cd]
    walk_at "rd"
    unfold bookD at q
    rw [if_neg (by rw [cd]; exact Bool.false_ne_true)] at q
    exact q H1 k1
/-! ### what good books are -/
theorem strs_map : ∀ dsk : List Str, strsOf (dsk.map PyData.str) = dsk
  | [] => rfl
  | z :: r => congrArg (z :: ·) (strs_map r)
theorem bookD_ok {d r : PyData} {dsk : List Str} {rs : List PyData} (h : bookD d r = .ok dsk rs) : d = .tuple (dsk.map PyData.str) ∧ r = .tuple rs ∧ goodBook dsk rs := by
  unfold bookD at h
  split at h
  · rename_i c
    split at h
    · split at h
      · cases h
      · rename_i g
        cases h
        exact ⟨desks_of c, rfl, by rw [← desks_of c]; exact c, g⟩
    · cases h
  · cases h
theorem firstBad_none (dsk : List Str) : ∀ (rs : List PyData) (i : Nat), firstBad dsk i rs = none → (rs ≠ [] → i + rs.length ≤ 8) ∧ ∀ e ∈ rs, isRuleD dsk e = true
  | [], _, _ => ⟨fun h => absurd rfl h, fun _ h => nomatch h⟩
  | r :: rs, i, h => by
    unfold firstBad at h
    split at h
    · cases h
    · rename_i c
      obtain ⟨c1, c2⟩ := not_or.mp c
      obtain ⟨h1, h2⟩ := firstBad_none dsk rs (i + 1) h
      refine ⟨fun _ => ?_, fun e he => ?_⟩
      · cases rs with
        | nil => simp; omega
        | cons a b =>
          have := h1 (by simp)
          simp only [List.length_cons] at this ⊢
          omega
      · rcases List.mem_cons.mp he with rfl | he
        · simpa using c2
        · exact h2 e he
theorem good_len {dsk : List Str} {rs : List PyData} (g : goodBook dsk rs) : rs.length ≤ 8 := by
  cases rs with
  | nil => simp
  | cons a b =>
    have := (firstBad_none dsk _ 0 g.2).1 (by simp)
    omega
theorem form_small {fs : List (List Str)} {dsk : List Str} {e : PyData} (hf : ∀ f ∈ fs, f ≠ [] ∧ f.length ≤ 1000) (h : hasForm fs dsk e = true) : okForm e := by
  rintro ds rfl
  unfold hasForm at h
  split at h
  · rename_i e1
    cases e1
    split at h
    · rename_i f hq
      have m := List.mem_of_find?_eq_some hq
      have p := List.find?_some hq
      unfold formIs at p
      simp only [Bool.and_eq_true, decide_eq_true_eq] at p
      have l := (hf f m).2
      cases f with
      | nil => simp at p
      | cons a b =>
        simp only [List.tail_cons, List.length_cons] at p l ⊢
        omega
    · cases h
  · cases h
theorem rule_ok {dsk : List Str} {e : PyData} (h : isRuleD dsk e = true) : okRule e := by
  unfold isRuleD at h
  split at h
  · rename_i ev ts as
    simp only [Bool.and_eq_true] at h
    obtain ⟨⟨⟨⟨⟨_, _⟩, ht⟩, _⟩, _⟩, ha⟩ := h
    rw [List.all_eq_true] at ht ha
    refine ⟨fun e ts' x eq t m => ?_, fun e x as' eq t m => ?_⟩
    · cases eq
      exact form_small forms_ok.1 (ht t m)
    · cases eq
      exact form_small forms_ok.2.1 (ha t m)
  · cases h
theorem good_rules {dsk : List Str} {rs : List PyData} (g : goodBook dsk rs) : ∀ e ∈ rs, okRule e := fun e m => rule_ok ((firstBad_none dsk rs 0 g.2).2 e m)
theorem desks_ok {d : PyData} (h : areDesksD d = true) : okDesks d := by
  rintro ds rfl
  unfold areDesksD at h
  simp only [Bool.and_eq_true, decide_eq_true_eq, List.all_eq_true] at h
  refine ⟨fun e m => ?_, fun _ => h.2⟩
  have := h.1.2 e m
  cases e <;> first | trivial | skip
  rename_i z
  unfold isNameD isNameS at this
  simp only [Bool.and_eq_true, decide_eq_true_eq] at this
  show z.length ≤ sizeLine
  rw [sizeLine_eq]
  omega
theorem good_desks {dsk : List Str} {rs : List PyData} (g : goodBook dsk rs) : okDesks (.tuple (dsk.map PyData.str)) := desks_ok g.1
theorem BookIs.same {K : PySem.W.Frag} {C : Addr} {H H' : Hp} {b : V} {dsk : List Str} {rs : List PyData} (h : BookIs K C H b dsk rs) (k : Same H H') : BookIs K C H' b dsk rs := by
  obtain ⟨a, dx, vd, vr, e, ha, hd, hr, g⟩ := h
  exact ⟨a, dx, vd, vr, e, k _ _ ha, dpSame k hd, dpSame k hr, g⟩
/-- what comes of Book(..) -/
def OutB (K : PySem.W.Frag) (C ND NR : Addr) (H : Hp) (res : BkR) (Q : VK) (E : XK) : Prop := match res with
  | .ok dsk rs => ∀ b H', Same H H' → BookIs K C H' b dsk rs → Q b H'
  | .noDesks => NoDesksE ND H E
  | .noRule i => NoRuleE K NR H E i
theorem OutB.same {K : PySem.W.Frag} {C ND NR : Addr} {H H' : Hp} {res : BkR} {Q : VK} {E : XK} (o : OutB K C ND NR H res Q E) (k : Same H H') : OutB K C ND NR H' res Q E := by
  cases res with
  | ok dsk rs => exact fun b H2 k2 h => o b H2 (k.trans k2) h
  | noDesks => exact fun H2 k2 => o H2 (k.trans k2)
  | noRule i => exact fun H2 a v k2 h1 h2 => o H2 a v (k.trans k2) h1 h2
theorem made {K : PySem.W.Frag} {C ND NR : Addr} {H : Hp} {vd vr : V} {d r : PyData} {Q : VK} {E : XK} (hd : Dp K H vd d) (hr : Dp K H vr r) (od : okDesks d) (okr : okRules r) (o : OutB K C ND NR H (bookD d r) Q E) (x dx : Addr) (n1 : H x = none) (n2 : H dx = none) (ne : dx ≠ x) :
    spInit K C ND NR [.ref x, vd, vr] (upd (upd H dx (.own x)) x (.ins C dx [])) (fun v H2 => v = .non ∧ Q (.ref x) H2) E := by
  have n3 : upd H dx (.own x) x = none := by rw [upd_ne (Ne.symm ne)]; exact n1
  have k : Same H (upd (upd H dx (.own x)) x (.ins C dx [])) := Same.put (Same.put (Same.refl H) n2) n3
  refine ⟨x, dx, vd, vr, d, r, rfl, upd_same, dpSame k hd, dpSame k hr, od, okr, ?_⟩
  cases e : bookD d r with
  | ok dsk rs =>
    rw [e] at o
    obtain ⟨e1, e2, g⟩ := bookD_ok e
    subst e1
    subst e2
    intro H' kk hx
    have s : Same H H' := fun b u q => kk b u (ne_of_none q n1) (k b u q)
    exact ⟨rfl, o _ H' s ⟨x, dx, vd, vr, rfl, hx, dpSame s hd, dpSame s hr, g⟩⟩
  | noDesks =>
    rw [e] at o
    exact fun H' s => o H' (k.trans s)
  | noRule i =>
    rw [e] at o
    exact fun H' a v s h1 h2 => o H' a v (k.trans s) h1 h2
theorem madeA {K : PySem.W.Frag} {C ND NR : Addr} {H : Hp} {vd vr : V} {d r : PyData} {Q : Addr → Hp → Prop} {E : XK} (hd : Dp K H vd d) (hr : Dp K H vr r) (od : okDesks d) (okr : okRules r) (o : OutB K C ND NR H (bookD d r) (fun b H2 => ∀ a, b = .ref a → Q a H2) E) (x dx : Addr) (n1 : H x = none) (n2 : H dx = none) (ne : dx ≠ x) :
    spInit K C ND NR [.ref x, vd, vr] (upd (upd H dx (.own x)) x (.ins C dx [])) (fun v H2 => v = .non ∧ Q x H2) E := by
  have n3 : upd H dx (.own x) x = none := by rw [upd_ne (Ne.symm ne)]; exact n1
  have k : Same H (upd (upd H dx (.own x)) x (.ins C dx [])) := Same.put (Same.put (Same.refl H) n2) n3
  refine ⟨x, dx, vd, vr, d, r, rfl, upd_same, dpSame k hd, dpSame k hr, od, okr, ?_⟩
  cases e : bookD d r with
  | ok dsk rs =>
    rw [e] at o
    obtain ⟨e1, e2, g⟩ := bookD_ok e
    subst e1
    subst e2
    intro H' kk hx
    have s : Same H H' := fun b u q => kk b u (ne_of_none q n1) (k b u q)
    exact ⟨rfl, o _ H' s ⟨x, dx, vd, vr, rfl, hx, dpSame s hd, dpSame s hr, g⟩ x rfl⟩
  | noDesks =>
    rw [e] at o
    exact fun H' s => o H' (k.trans s)
  | noRule i =>
    rw [e] at o
    exact fun H' a v s h1 h2 => o H' a v (k.trans s) h1 h2
/-! ### the methods -/
def spBk (K : PySem.W.Frag) (C : Addr) (g : List Str → List PyData → PyData) : Sp := fun vs H Q _ => ∃ b dsk rs, vs = [b] ∧ BookIs K C H b dsk rs ∧ ∀ v, Dp K H v (g dsk rs) → Q v H
theorem spBk_len {K : PySem.W.Frag} {C : Addr} {g : List Str → List PyData → PyData} : ∀ vs H Q E, spBk K C g vs H Q E → vs.length = 1 := by
  rintro _ _ _ _ ⟨_, _, _, rfl, _⟩
  rfl
theorem m_Book_desks (T : TX P K mg Z) : MethOk P w K mg base Z.Book "desks" ["self"] 1 (spBk K Z.Book fun dsk _ => .tuple (dsk.map PyData.str)) := by
  refine T.mt_Book_desks.ok T.cl_Book sc_Book_desks spBk_len fun f cdv A outer s H vs Q E hr h => ?_
  obtain ⟨b, dsk, rs, rfl, ⟨a, dx, vd, vr, rfl, ha, hd, hrr, g⟩, q⟩ := h
  refine ⟨_, (pss_one (ps_ret (kFld (K := K) (pv 0) rfl))), ?_⟩
  walk_at "rn"
  exact ⟨_, _, _, ha, T.cl_Book, T.na_Book__desks, _, rfl, q _ hd⟩
theorem m_Book_rules (T : TX P K mg Z) : MethOk P w K mg base Z.Book "rules" ["self"] 1 (spBk K Z.Book fun _ rs => .tuple rs) := by
  refine T.mt_Book_rules.ok T.cl_Book sc_Book_rules spBk_len fun f cdv A outer s H vs Q E hr h => ?_
  obtain ⟨b, dsk, rs, rfl, ⟨a, dx, vd, vr, rfl, ha, hd, hrr, g⟩, q⟩ := h
  refine ⟨_, (pss_one (ps_ret (kFld (K := K) (pv 0) rfl))), ?_⟩
  walk_at "rn"
  exact ⟨_, _, _, ha, T.cl_Book, T.na_Book__rules, _, rfl, q _ hrr⟩
def spHas (K : PySem.W.Frag) (C : Addr) : Sp := fun vs H Q _ => ∃ b dsk rs v d, vs = [b, v] ∧ BookIs K C H b dsk rs ∧ Dp K H v d ∧ ∀ H', Same H H' → Q (.bl (hasD rs.length d)) H'
theorem m_Book__has (T : TX P K mg Z) : MethOk P w K mg base Z.Book "_has" ["self", "index"] 3 (spHas K Z.Book) := by
  refine T.mt_Book__has.ok T.cl_Book sc_Book__has (by rintro _ _ _ _ ⟨_, _, _, _, _, rfl, _⟩; rfl) fun f cdv A outer s H vs Q E hr h => ?_
  obtain ⟨b, dsk, rs, v, d, rfl, bk, hv, q⟩ := h
  refine ⟨_, (pss_one (ps_ret (pe_callD (d_is_index T) hr rfl passL (pa_cons (pv 1) (pa_cons (pe_callB (kLen (K := K)) (by rfl) T.b_len PySem.boot_len (pa_cons (kFld (K := K) (pv 0) rfl) pa_nil)) pa_nil))))), ?_⟩
  walk_at "rn"
  obtain ⟨a, dx, vd, vr, rfl, ha, hd, hrr, g⟩ := bk
  obtain ⟨ar, xs, rfl, hrs, hda⟩ := dp_tup hrr
  have ln := dps_len hda
  refine ⟨_, rfl, _, _, _, ha, T.cl_Book, T.na_Book__rules, _, rfl, len_t hrs ?_⟩
  rw [ln]
  exact ⟨_, _, _, rfl, hv, q⟩
theorem m_Book_len (T : TX P K mg Z) : MethOk P w K mg base Z.Book "__len__" ["self"] 1 (spBk K Z.Book fun _ rs => .int rs.length) := by
  refine T.mt_Book_len.ok T.cl_Book sc_Book_len spBk_len fun f cdv A outer s H vs Q E hr h => ?_
  obtain ⟨b, dsk, rs, rfl, ⟨a, dx, vd, vr, rfl, ha, hd, hrr, g⟩, q⟩ := h
  refine ⟨_, (pss_one (ps_ret (pe_callB (kLen (K := K)) (by rfl) T.b_len PySem.boot_len (pa_cons (kFld (K := K) (pv 0) rfl) pa_nil)))), ?_⟩
  walk_at "rn"
  obtain ⟨ar, xs, rfl, hrs, hda⟩ := dp_tup hrr
  have ln := dps_len hda
  refine ⟨_, _, _, ha, T.cl_Book, T.na_Book__rules, _, rfl, len_t hrs ?_⟩
  rw [ln]
  exact q _ (.int _)
theorem name_ok {z : Str} (h : isNameS z = true) : PyData.strOk z = true := by
  unfold isNameS at h
  simp only [Bool.and_eq_true, List.all_eq_true, decide_eq_true_eq] at h
  unfold PyData.strOk
  rw [Array.all_eq_true_iff_forall_mem]
  intro c m
  have l : ∀ c ∈ lettersS.cps.toList, c < 0x110000 := by decide +kernel
  exact decide_eq_true (l c (h.2 c (Array.mem_toList_iff.mpr m)))
theorem strs_lay : ∀ dsk : List Str, (dsk.map PyData.str).all isNameD = true → PyData.canLayAll0 (dsk.map PyData.str) = true ∧ PyData.depthAll (dsk.map PyData.str) = 0
  | [], _ => ⟨by simp [PyData.canLayAll0], by simp [PyData.depthAll]⟩
  | z :: r, h => by
    rw [List.map_cons, List.all_cons, Bool.and_eq_true] at h
    obtain ⟨h1, h2⟩ := strs_lay r h.2
    have := name_ok h.1
    exact ⟨by simp [PyData.canLayAll0, PyData.canLay0, this, h1], by simp [PyData.depthAll, PyData.depth, h2]⟩
theorem desks_shaped {dsk : List Str} (h : areDesksD (.tuple (dsk.map PyData.str)) = true) : SeqAt.shaped (.tuple (dsk.map PyData.str)) = true := by
  unfold areDesksD at h
  simp only [Bool.and_eq_true] at h
  obtain ⟨h1, h2⟩ := strs_lay dsk h.1.2
  unfold SeqAt.shaped
  simp [PyData.canLay0, PyData.depth, h1, h2]
theorem eqv_strs : ∀ a b : List Str, PyData.eqv (.tuple (a.map PyData.str)) (.tuple (b.map PyData.str)) = decide (a = b) := by
  intro a b
  show PyData.eqvAll (a.map PyData.str) (b.map PyData.str) = _
  induction a generalizing b with
  | nil => cases b <;> simp [PyData.eqvAll]
  | cons x a ih =>
    cases b with
    | nil => simp [PyData.eqvAll]
    | cons y b =>
      rw [List.map_cons, List.map_cons]
      rw [PyData.eqvAll, ih, PyData.eqv]
      by_cases e : x = y <;> by_cases e2 : a = b <;> simp [e, e2]
def spAddB (K : PySem.W.Frag) (C ND NR : Addr) : Sp := fun vs H Q E => ∃ b c dsk rs dsk' rs', vs = [b, c] ∧ BookIs K C H b dsk rs ∧ BookIs K C H c dsk' rs' ∧ OutB K C ND NR H (if dsk = dsk' then bookD (.tuple (dsk.map PyData.str)) (.tuple (rs ++ rs')) else .noDesks) Q E
theorem m_Book_add (T : TX P K mg Z) : MethOk P w K mg base Z.Book "__add__" ["self", "other"] 7 (spAddB K Z.Book Z.NoDesks Z.NoRule) := by
  refine T.mt_Book_add.ok T.cl_Book sc_Book_add (by rintro _ _ _ _ ⟨_, _, _, _, _, _, rfl, _⟩; rfl) fun f cdv A outer s H vs Q E hr h => ?_
  obtain ⟨b, c, dsk, rs, dsk', rs', rfl, ⟨a, dx, vd, vr, rfl, ha, hd, hrr, g⟩, ⟨a', dx', vd', vr', rfl, ha', hd', hrr', g'⟩, q⟩ := h
  refine ⟨_, (pss_cons (ps_if (pt_cmpR (kNe (K := K) hr.units) (kFld (K := K) (pv 0) rfl) (kFld (K := K) (pv 1) rfl) (nomark _)) (pss_one (ps_raise rfl (takes_of rfl rfl rfl rfl) (pmk_own PySem.F.excBase_ValueError T.x_NoDesks.q T.c_NoDesks T.x_NoDesks.k (raises_own T.x_NoDesks.e T.x_NoDesks.t) rfl))) pss_nil) (pss_one (ps_ret (pe_makeD (mk_Book T) hr rfl (passes_call (takes_of rfl rfl rfl rfl) (fun _ _ _ _ h => h)) (pa_cons (kFld (K := K) (pv 0) rfl) (pa_cons (pe_op (kAdd (K := K)) (kFld (K := K) (pv 0) rfl) (kFld (K := K) (pv 1) rfl)) pa_nil)))))), ?_⟩
  walk_at "rn"
  obtain ⟨ad, xd, rfl, sd, dd⟩ := dp_tup hd
  refine ⟨_, _, _, ha, T.cl_Book, T.na_Book__desks, _, rfl, _, _, _, ha', T.cl_Book, T.na_Book__desks, _, rfl, ?_⟩
  rw [rNeU_r]
  refine ⟨_, _, hd, hd', desks_shaped g.1, desks_shaped g'.1, _, rfl, ?_⟩
  rw [eqv_strs]
  by_cases e : dsk = dsk'
  · rw [decide_eq_true e]
    rw [if_pos e] at q
    refine ⟨_, _, _, ha, T.cl_Book, T.na_Book__desks, _, rfl, _, _, _, ha, T.cl_Book, T.na_Book__rules, _, rfl, _, _, _, ha', T.cl_Book, T.na_Book__rules, _, rfl, ?_⟩
    refine cat_dp hrr hrr' (by have := good_len g; omega) (by have := good_len g'; omega) fun v H2 k hv => ?_
    walk_at "rn"
    refine made (dpSame k hd) hv (good_desks g) (fun rs2 e2 => ?_) (q.same k)
    cases e2
    refine ⟨?_, fun e m => ?_⟩
    · have := good_len g
      have := good_len g'
      rw [List.length_append]
      omega
    · rcases List.mem_append.mp m with m | m
      · exact good_rules g e m
      · exact good_rules g' e m
  · rw [decide_eq_false e]
    rw [if_neg e] at q
    exact q H (Same.refl H)
/-- the item at an index of a tuple -/
def ixD (rs : List PyData) : PyData → Option PyData
  | .int i => if 0 ≤ i then rs[i.toNat]? else none
  | _ => none
theorem ixD_has {rs : List PyData} {d : PyData} (h : hasD rs.length d = true) : ∃ (i : Nat) (e : PyData), d = .int i ∧ rs[i]? = some e ∧ ixD rs d = some e := by
  cases d <;> first | exact Bool.noConfusion h | skip
  rename_i z
  simp only [hasD, Bool.and_eq_true, decide_eq_true_eq] at h
  obtain ⟨n, rfl⟩ := Int.eq_ofNat_of_zero_le h.1
  have hn : n < rs.length := by omega
  exact ⟨n, rs[n], rfl, List.getElem?_eq_getElem hn, by simp [ixD, hn]⟩
theorem ixD_not {rs : List PyData} {d : PyData} (h : hasD rs.length d = false) : ixD rs d = none := by
  cases d <;> first | rfl | skip
  rename_i z
  simp only [ixD]
  by_cases c : 0 ≤ z
  · rw [if_pos c, List.getElem?_eq_none]
    simp only [hasD, Bool.and_eq_false_iff, decide_eq_false_iff_not] at h
    omega
  · rw [if_neg c]
def spIxB (K : PySem.W.Frag) (C NR : Addr) : Sp := fun vs H Q E => ∃ b dsk rs v d, vs = [b, v] ∧ BookIs K C H b dsk rs ∧ Dp K H v d ∧
  match ixD rs d with
  | some e => ∀ w H', Same H H' → Dp K H' w e → Q w H'
  | none => NoRuleE K NR H E d
theorem m_Book_getitem (T : TX P K mg Z) : MethOk P w K mg base Z.Book "__getitem__" ["self", "at"] 4 (spIxB K Z.Book Z.NoRule) := by
  refine T.mt_Book_getitem.ok T.cl_Book sc_Book_getitem (by rintro _ _ _ _ ⟨_, _, _, _, _, rfl, _⟩; rfl) fun f cdv A outer s H vs Q E hr h => ?_
  obtain ⟨b, dsk, rs, v, d, rfl, bk, hv, q⟩ := h
  refine ⟨_, (pss_cons (ps_if (pt_not (pt_val (pe_methD (m_Book__has T) hr (pv 0) passL (pa_cons (pv 1) pa_nil)))) (pss_one (LowIndex.ps_raise rfl T.x_NoRule T.c_NoRule hr (takes_of rfl rfl rfl rfl) (pa_cons (pv 1) pa_nil))) pss_nil) (pss_one (ps_ret (pe_ix (kIx (K := K)) (kFld (K := K) (pv 0) rfl) (pv 1) (fun _ _ => rfl))))), ?_⟩
  walk_at "rn"
  have bk0 := bk
  obtain ⟨a, dx, vd, vr, rfl, ha, hd, hrr, g⟩ := bk
  refine ⟨_, rfl, _, _, ha, rfl, _, _, _, _, _, rfl, bk0, hv, fun H1 k1 => ⟨_, rfl, ?_⟩⟩
  by_cases c : hasD rs.length d = true
  · rw [c]
    obtain ⟨i, e, rfl, he, hx⟩ := ixD_has c
    rw [hx] at q
    cases dp_int hv
    obtain ⟨ar, xs, rfl, hrs, hda⟩ := dp_tup hrr
    obtain ⟨w, hw, hwe⟩ := dps_at hda he
    show if (!true) = true then _ else _
    rw [if_neg (by decide)]
    refine ⟨_, rfl, _, _, _, k1 _ _ ha, T.cl_Book, T.na_Book__rules, _, rfl, ix_t (same_seqT k1 hrs) (atI_nat hw) ?_⟩
    exact q _ H1 k1 (dpSame k1 hwe)
  · rw [Bool.not_eq_true] at c
    rw [c]
    rw [ixD_not c] at q
    exact fun a n => raised (K := K) q k1 (dpSame k1 hv) a n
/-- two neighbours exchanged -/
def swapL {α : Type} (rs : List α) (i : Nat) : List α := match rs[i]?, rs[i + 1]? with
  | some a, some b => (rs.set i b).set (i + 1) a
  | _, _ => rs
theorem hasD_next {n : Nat} {i : Int} : hasD (n - 1) (.int i) = (hasD n (.int i) && hasD n (.int (i + 1))) := by
  simp only [hasD]
  rw [Bool.eq_iff_iff]
  simp only [Bool.and_eq_true, decide_eq_true_eq]
  omega
theorem hasD_int {n : Nat} {d : PyData} (h : hasD n d = true) : ∃ i : Nat, d = .int i ∧ i < n := by
  cases d <;> first | exact Bool.noConfusion h | skip
  rename_i z
  simp only [hasD, Bool.and_eq_true, decide_eq_true_eq] at h
  obtain ⟨m, rfl⟩ := Int.eq_ofNat_of_zero_le h.1
  exact ⟨m, rfl, by omega⟩
def spExch (K : PySem.W.Frag) (C ND NR : Addr) : Sp := fun vs H Q E => ∃ b dsk rs v d, vs = [b, v] ∧ BookIs K C H b dsk rs ∧ Dp K H v d ∧
    if hasD (rs.length - 1) d then ∀ i : Nat, d = .int i → OutB K C ND NR H (bookD (.tuple (dsk.map PyData.str)) (.tuple (swapL rs i))) Q E else NoRuleE K NR H E d
def intOf : PyData → Int
  | .int i => i
  | _ => 0
/-- the indexes in order; the first item that is no index, or stands there for the second time -/
def outs (n : Nat) : List Int → List PyData → PyData ⊕ List Int
  | seen, [] => .inr seen
  | seen, d :: r => if hasD n d = true ∧ intOf d ∉ seen then outs n (seen ++ [intOf d]) r else .inl d
def keepL (seen : List Int) : Nat → List PyData → List PyData
  | _, [] => []
  | i, e :: r => if (i : Int) ∈ seen then keepL seen (i + 1) r else e :: keepL seen (i + 1) r
theorem keepL_snoc (seen : List Int) (e : PyData) : ∀ (xs : List PyData) (i : Nat), keepL seen i (xs ++ [e]) = keepL seen i xs ++ (if ((i + xs.length : Nat) : Int) ∈ seen then [] else [e])
  | [], i => by
    simp only [List.nil_append, keepL, List.length_nil, Nat.add_zero]
  | x :: xs, i => by
    have ih := keepL_snoc seen e xs (i + 1)
    rw [List.cons_append]
    simp only [keepL, ih, List.length_cons]
    have en : i + 1 + xs.length = i + (xs.length + 1) := by omega
    rw [en]
    by_cases c : (i : Int) ∈ seen <;> simp [c]
theorem keepL_sub (seen : List Int) : ∀ (xs : List PyData) (i : Nat), (keepL seen i xs).length ≤ xs.length ∧ ∀ e ∈ keepL seen i xs, e ∈ xs
  | [], i => ⟨Nat.le_refl _, fun _ h => h⟩
  | x :: xs, i => by
    obtain ⟨h1, h2⟩ := keepL_sub seen xs (i + 1)
    unfold keepL
    by_cases c : (i : Int) ∈ seen
    · rw [if_pos c]
      exact ⟨by simp; omega, fun e m => List.mem_cons_of_mem _ (h2 e m)⟩
    · rw [if_neg c]
      refine ⟨by simp; omega, fun e m => ?_⟩
      rcases List.mem_cons.mp m with rfl | m
      · exact List.mem_cons_self
      · exact List.mem_cons_of_mem _ (h2 e m)
/-- the same of the values -/
def keepV (seen : List Int) : Nat → List V → List V
  | _, [] => []
  | i, e :: r => if (i : Int) ∈ seen then keepV seen (i + 1) r else e :: keepV seen (i + 1) r
theorem keepV_snoc (seen : List Int) (e : V) : ∀ (xs : List V) (i : Nat), keepV seen i (xs ++ [e]) = keepV seen i xs ++ (if ((i + xs.length : Nat) : Int) ∈ seen then [] else [e])
  | [], i => by
    simp only [List.nil_append, keepV, List.length_nil, Nat.add_zero]
  | x :: xs, i => by
    have ih := keepV_snoc seen e xs (i + 1)
    rw [List.cons_append]
    simp only [keepV, ih, List.length_cons]
    have en : i + 1 + xs.length = i + (xs.length + 1) := by omega
    rw [en]
    by_cases c : (i : Int) ∈ seen <;> simp [c]
theorem keepV_len (seen : List Int) : ∀ (xs : List V) (i : Nat), (keepV seen i xs).length ≤ xs.length
  | [], i => Nat.le_refl _
  | x :: xs, i => by
    have h1 := keepV_len seen xs (i + 1)
    unfold keepV
    by_cases c : (i : Int) ∈ seen
    · rw [if_pos c]; simp; omega
    · rw [if_neg c]; simp; omega
theorem keep_dp {K : PySem.W.Frag} {H : Hp} (seen : List Int) : ∀ {xs : List V} {rs : List PyData} (i : Nat), DpAll K H xs rs → DpAll K H (keepV seen i xs) (keepL seen i rs)
  | _, _, _, .nil => .nil
  | _, _, i, .cons h t => by
    unfold keepV keepL
    by_cases c : (i : Int) ∈ seen
    · rw [if_pos c, if_pos c]; exact keep_dp seen (i + 1) t
    · rw [if_neg c, if_neg c]; exact .cons h (keep_dp seen (i + 1) t)
/-- a value that is no tuple -/
def NotTup (K : PySem.W.Frag) (H : Hp) (x : V) : Prop := ∃ t, TyX K H x t ∧ PySem.W.kitOne K t (.type "tuple") = some false
def spWo (K : PySem.W.Frag) (C ND NR : Addr) : Sp := fun vs H Q E => (∃ b dsk rs v d, vs = [b, v] ∧ BookIs K C H b dsk rs ∧ Dp K H v d ∧ (∀ ds, d = .tuple ds → ds.length ≤ 1000) ∧
    match d with
    | .tuple ds => (match outs rs.length [] ds with
      | .inl e => NoRuleE K NR H E e
      | .inr seen => OutB K C ND NR H (bookD (.tuple (dsk.map PyData.str)) (.tuple (keepL seen 0 rs))) Q E)
    | _ => NoRuleE K NR H E (.int 0)) ∨ ∃ b dsk rs v, vs = [b, v] ∧ BookIs K C H b dsk rs ∧ NotTup K H v ∧ NoRuleE K NR H E (.int 0)
/-! ### == -/
theorem good_low {dsk : List Str} {rs : List PyData} (g : goodBook dsk rs) : lowOk dsk := fun z m => by
  have h := g.1
  unfold areDesksD at h
  simp only [Bool.and_eq_true, List.all_eq_true] at h
  exact name_ok (h.1.2 _ (List.mem_map_of_mem m))
theorem rules_lay {dsk : List Str} {rs : List PyData} (g : goodBook dsk rs) : layD 4 (.tuple rs) := fun e m => rule_lay (good_low g) ((firstBad_none dsk rs 0 g.2).2 e m)
def sameB (dsk : List Str) (rs : List PyData) (dsk' : List Str) (rs' : List PyData) : Bool := decide (dsk = dsk') && PyData.eqv (.tuple rs) (.tuple rs')
theorem kitOne_refl {K : PySem.W.Frag} {C : Addr} : PySem.W.kitOne K (.ref C) (.ref C) = some true := by
  unfold PySem.W.kitOne
  rw [if_pos (by simp)]
def spEqB (K : PySem.W.Frag) (C : Addr) : Sp := fun vs H Q _ => ∃ b c dsk rs dsk' rs', vs = [b, c] ∧ BookIs K C H b dsk rs ∧ BookIs K C H c dsk' rs' ∧ Q (.bl (sameB dsk rs dsk' rs')) H
theorem m_Book_eq (T : TX P K mg Z) : MethOk P w K mg base Z.Book "__eq__" ["self", "other"] 2 (spEqB K Z.Book) := by
  refine T.mt_Book_eq.ok T.cl_Book sc_Book_eq (by rintro _ _ _ _ ⟨_, _, _, _, _, _, rfl, _⟩; rfl) fun f cdv A outer s H vs Q E hr h => ?_
  obtain ⟨b, c, dsk, rs, dsk', rs', rfl, ⟨a, dx, vd, vr, rfl, ha, hd, hrr, g⟩, ⟨a', dx', vd', vr', rfl, ha', hd', hrr', g'⟩, q⟩ := h
  refine ⟨_, (pss_one (ps_ret (pe_and (pe_callB (kIsi (K := K)) (by rfl) T.b_isinstance (by decide +kernel) (pa_cons (pv 1) (pa_cons (pe_globR rfl T.c_Book) pa_nil))) (pe_and (pe_cmpR (kEq (K := K) hr.units) (kFld (K := K) (pv 0) rfl) (kFld (K := K) (pv 1) rfl) (nomark _)) (pe_one (pe_cmpR (kEq (K := K) hr.units) (kFld (K := K) (pv 0) rfl) (kFld (K := K) (pv 1) rfl) (nomark _))))))), ?_⟩
  walk_at "rn"
  refine ⟨_, _, _, _, _, rfl, .own _, .base (.ins ha' T.cl_Book T.ty_Book T.tg_class T.tt_class T.mo_Book), kitOne_refl, ?_⟩
  walk_at "rn"
  obtain ⟨ad, xd, rfl, sd, dd⟩ := dp_tup hd
  obtain ⟨ar, xr, rfl, sr, dr⟩ := dp_tup hrr
  refine ⟨_, _, _, ha, T.cl_Book, T.na_Book__desks, _, rfl, _, _, _, ha', T.cl_Book, T.na_Book__desks, _, rfl, ?_⟩
  rw [rEqU_r]
  refine ⟨_, _, hd, hd', desks_shaped g.1, desks_shaped g'.1, _, rfl, ?_⟩
  rw [eqv_strs]
  by_cases e : dsk = dsk'
  · rw [decide_eq_true e]
    refine ⟨_, _, _, ha, T.cl_Book, T.na_Book__rules, _, rfl, _, _, _, ha', T.cl_Book, T.na_Book__rules, _, rfl, ?_⟩
    rw [rEqU_r]
    refine ⟨_, _, hrr, hrr', (rules_lay g).shaped (by decide), (rules_lay g').shaped (by decide), ?_⟩
    unfold sameB at q
    rw [decide_eq_true e, Bool.true_and] at q
    exact q
  · rw [decide_eq_false e]
    unfold sameB at q
    rw [decide_eq_false e, Bool.false_and] at q
    exact q
theorem sameB_refl {dsk : List Str} {rs : List PyData} (g : goodBook dsk rs) : sameB dsk rs dsk rs = true := by
  unfold sameB
  rw [decide_eq_true rfl, (rules_lay g).refl]
  rfl
end
end Ld

set_option Elab.async false
set_option linter.all false
set_option maxRecDepth 100000
set_option maxHeartbeats 4000000
/-! Effect: what the rules do at one event. -/
namespace Ld
open PySem PySem.Spec PyProof.Rows L2
local macro_rules | `(tactic| walk_at "rd") => `(tactic| try simp only [tSeq, tNext, tRet, tRetN, tIfS, tTest, tB, tAnd, tOr, tNot, tAndV, tOrV, tNotV, tOp, tUn, tC, tVar, tCons, tNil, tCall, tCB, tAsg, tDrop, tChain, tIf, tYes, tBreak, tCont, tNever, tFld, sFld, sFldAug, tMeth, tMake, tRaiseF, tMkF, tM1, tOwn2S, tOwnIxS, tXf, tRevL, tMethS, tTup, tLst, tSl, tPart, tNoPart, tPar, tBM, tBM0, tLenSetT, tAug, gName, gTup, gCons, gNil, gStar2, gFld, gSub, rI0, rI, rU, rIxU, rIxS, rIn, rInU, rAddU, rSlU, rLenU, rTupU, rListU, rRep, rEqU_ss, rEqU_ii, rEqU_bb, rEqU_r, rNeU_ss, rNeU_ii, rNeU_bb, rNeU_r, cxOf, L2.start, wipe, List.map_cons, List.map_nil, List.length_cons, List.length_nil, List.replicate, List.cons_append, List.nil_append, List.append_nil, Nat.reduceSub, Nat.reduceAdd, List.getElem?_cons_zero, List.getElem?_cons_succ, List.set_cons_zero, List.set_cons_succ, Option.some.injEq, exists_eq_left', exists_eq_left, exists_eq, exists_and_left, V.bl.injEq, V.int.injEq, V.str.injEq, V.ref.injEq, V.ty.injEq, reduceCtorEq, false_and, and_false, exists_false, false_or, or_false, true_and, and_true, if_true, if_false, Bool.false_eq_true, ite_true, ite_false, reduceIte, decide_true, decide_false, Bool.not_true, Bool.not_false, Bool.not_eq_true, Bool.true_and, Bool.false_and, Bool.and_true, Bool.and_false, List.cons.injEq, and_assoc])
local macro_rules | `(tactic| walk_at "rn") => `(tactic| try simp only [tSeq, tNext, tRet, tRetN, tIfS, tTest, tB, tAnd, tOr, tNot, tAndV, tOrV, tNotV, tOp, tUn, tC, tVar, tCons, tNil, tCall, tCB, tAsg, tDrop, tChain, tIf, tYes, tBreak, tCont, tNever, tFld, sFld, sFldAug, tMeth, tMake, tRaiseF, tMkF, tM1, tOwn2S, tOwnIxS, tXf, tRevL, tMethS, tCallS, tMethK1, tDNewK, tRevT, Ends.cut, tDGet, rNotN, tNGet, sNPut, tNNew, tTup, tLst, tSl, tPart, tNoPart, tPar, tBM, tBM0, tLenSetT, tAug, gName, gTup, gCons, gNil, gStar2, gFld, gSub, rI0, rI, rU, rAddU_ii, tFor_rng, tLc_rng, rRep, rEqU_ss, rEqU_ii, rEqU_bb, rEqU_r, rNeU_ss, rNeU_ii, rNeU_bb, rNeU_r, cxOf, L2.start, wipe, List.map_cons, List.map_nil, List.length_cons, List.length_nil, List.replicate, List.cons_append, List.nil_append, List.append_nil, Nat.reduceSub, Nat.reduceAdd, List.getElem?_cons_zero, List.getElem?_cons_succ, List.set_cons_zero, List.set_cons_succ, Option.some.injEq, exists_eq_left', exists_eq_left, exists_eq, exists_and_left, V.bl.injEq, V.int.injEq, V.str.injEq, V.ref.injEq, V.ty.injEq, reduceCtorEq, false_and, and_false, exists_false, false_or, or_false, true_and, and_true, if_true, if_false, Bool.false_eq_true, ite_true, ite_false, reduceIte, decide_true, decide_false, Bool.not_true, Bool.not_false, Bool.not_eq_true, Bool.true_and, Bool.false_and, Bool.and_true, Bool.and_false, List.cons.injEq, and_assoc])
local macro_rules | `(tactic| walk_at "lay") => `(tactic| (apply lay_new; intro l h qq s n e; rw [← qq]; clear qq))
section
variable {P : Program} {w : World} {K : PySem.W.Frag} {mg : Str → Option Value} {base : Heap} {Z : Ad}
def efFields (e : Ef) (ls la : Addr) : List (Str × V) := [("status", .str e.tk.status), ("desk", .str e.tk.desk), ("answered", .bl e.tk.answered), ("days", .int e.tk.days), ("marked", .bl e.tk.marked), ("events", V.ref ls), ("acted", .ref la), ("sent", .int e.sent), ("closed_by_rule", .bl e.closed), ("sent_twice", .bl e.twice)]
def efHead (t : Tk) : List (Str × V) := [("status", V.str t.status), ("desk", V.str t.desk), ("answered", V.bl t.answered), ("days", V.int t.days), ("marked", V.bl t.marked)]
def efF (t : Tk) (xs : List (Str × V)) : List (Str × V) := efHead t ++ xs
structure EfAt (C : Addr) (H : Hp) (a dx ls la : Addr) (e : Ef) : Prop where
  ins : H a = some (.ins C dx (efFields e ls la))
  ev : H ls = some (.lst (e.events.map V.str))
  ac : H la = some (.lst (e.acted.map V.int))
  ne : ls ≠ la
theorem EfAt.same {C : Addr} {H H' : Hp} {a dx ls la : Addr} {e : Ef} (x : EfAt C H a dx ls la e) (s : Same H H') : EfAt C H' a dx ls la e := ⟨s _ _ x.ins, s _ _ x.ev, s _ _ x.ac, x.ne⟩
theorem EfAt.nls {C : Addr} {H : Hp} {a dx ls la : Addr} {e : Ef} (x : EfAt C H a dx ls la e) : ls ≠ a := fun c => by
  have h := x.ev
  rw [c, x.ins] at h
  cases h
theorem EfAt.nla {C : Addr} {H : Hp} {a dx ls la : Addr} {e : Ef} (x : EfAt C H a dx ls la e) : la ≠ a := fun c => by
  have h := x.ac
  rw [c, x.ins] at h
  cases h
abbrev Ch (a ls la : Addr) (H H' : Hp) : Prop := Keep (fun b => b = a ∨ b = ls ∨ b = la) H H'
def spEff (C : Addr) : Sp := fun vs H Q _ => ∃ x dx v t, vs = [.ref x, v] ∧ H x = some (.ins C dx []) ∧ TkAt H v t ∧ ∀ H' ls la, Keep (fun b => b = x) H H' → H ls = none → H la = none → EfAt C H' x dx ls la (efNew t) → Q .non H'
theorem mk_Effect (T : TX P K mg Z) : MakeOk P w K mg base Z.Effect "Effect" ["self", "ticket"] 1 (spEff Z.Effect) := by
  refine T.in_Effect.ok sc_Effect_init (by rintro _ _ _ _ ⟨_, _, _, _, rfl, _⟩; rfl) fun f cdv A outer s H vs Q E hr h => ?_
  obtain ⟨x, dx, v, t, rfl, hx, ⟨a, rfl, ha⟩, q⟩ := h
  refine ⟨_, (pss_cons (ps_asg (pv 1) (kTup (K := K) (n := 5) rfl (pgs_cons (kGfld (K := K) (pv 0)) (pgs_cons (kGfld (K := K) (pv 0)) (pgs_cons (kGfld (K := K) (pv 0)) (pgs_cons (kGfld (K := K) (pv 0)) (pgs_cons (kGfld (K := K) (pv 0)) pgs_nil))))))) (pss_cons (ps_fld (pv 0) (pe_lst pa_nil) rfl) (pss_cons (ps_fld (pv 0) (pe_lst pa_nil) rfl) (pss_cons (ps_fld (pv 0) pe_int rfl) (pss_cons (ps_fld (pv 0) pe_bl rfl) (pss_one (ps_fld (pv 0) pe_bl rfl))))))), ?_⟩
  walk_at "rn"
  refine ⟨t.vals, .inl (.inl ha), rfl, _, _, rfl, _, _, _, hx, T.cl_Effect, T.na_Effect_status, by decide, ?_⟩
  refine ⟨_, _, rfl, _, _, [("status", V.str t.status)], upd_same, T.cl_Effect, T.na_Effect_desk, by simp, ?_⟩
  refine ⟨_, _, rfl, _, _, [("status", V.str t.status), ("desk", V.str t.desk)], upd_same, T.cl_Effect, T.na_Effect_answered, by simp, ?_⟩
  refine ⟨_, _, rfl, _, _, [("status", V.str t.status), ("desk", V.str t.desk), ("answered", V.bl t.answered)], upd_same, T.cl_Effect, T.na_Effect_days, by simp, ?_⟩
  refine ⟨_, _, rfl, _, _, [("status", V.str t.status), ("desk", V.str t.desk), ("answered", V.bl t.answered), ("days", V.int t.days)], upd_same, T.cl_Effect, T.na_Effect_marked, by simp, rfl, ?_⟩
  rw [upd_upd, upd_upd, upd_upd, upd_upd]
  refine ⟨by decide +kernel, ?_⟩
  walk_at "lay"
  rename_i ls H1 s1 n1 e1
  have f1 := s1 _ _ (upd_same (H := H) (a := x))
  have nx : ls ≠ x := fun c => by rw [c, upd_same] at n1; cases n1
  have n1' : H ls = none := by rw [upd_ne nx] at n1; exact n1
  refine ⟨_, _, [("status", V.str t.status), ("desk", V.str t.desk), ("answered", V.bl t.answered), ("days", V.int t.days), ("marked", V.bl t.marked)], f1, T.cl_Effect, T.na_Effect_events, by simp, by decide +kernel, ?_⟩
  generalize eG : upd H1 x _ = H2
  have k2 : Keep (fun b => b = x) H H2 := fun b o nb e => by
    rw [← eG, upd_ne nb]
    exact s1 _ _ (by rw [upd_ne nb]; exact e)
  have g2 : H2 ls = some (.lst []) := by rw [← eG, upd_ne nx]; exact e1
  have f2 : H2 x = some (.ins Z.Effect dx (efF t [("events", V.ref ls)])) := by rw [← eG]; exact upd_same
  walk_at "lay"
  rename_i la H3 s3 n3 e3
  have nax : la ≠ x := fun c => by rw [c, f2] at n3; cases n3
  have nal : la ≠ ls := fun c => by rw [c, g2] at n3; cases n3
  have n3' : H la = none := by
    cases e : H la with
    | none => rfl
    | some o => rw [k2 la o nax e] at n3; cases n3
  refine ⟨_, _, _, s3 _ _ f2, T.cl_Effect, T.na_Effect_acted, by simp [efF, efHead], ?_⟩
  refine ⟨_, _, efF t [("events", V.ref ls), ("acted", V.ref la)], upd_same, T.cl_Effect, T.na_Effect_sent, by simp [efF, efHead], ?_⟩
  refine ⟨_, _, efF t [("events", V.ref ls), ("acted", V.ref la), ("sent", V.int 0)], upd_same, T.cl_Effect, T.na_Effect_closed_by_rule, by simp [efF, efHead], ?_⟩
  refine ⟨_, _, efF t [("events", V.ref ls), ("acted", V.ref la), ("sent", V.int 0), ("closed_by_rule", V.bl false)], upd_same, T.cl_Effect, T.na_Effect_sent_twice, by simp [efF, efHead], ?_⟩
  rw [upd_upd, upd_upd, upd_upd]
  refine q _ ls la (fun b o nb e => by rw [upd_ne nb]; exact s3 _ _ (k2 b o nb e)) n1' n3' ⟨upd_same, ?_, ?_, Ne.symm nal⟩
  · rw [upd_ne nx]; exact s3 _ _ g2
  · rw [upd_ne nax]; exact e3
def spTkNow (C : Addr) : Sp := fun vs H Q _ => ∃ a dx ls la e, vs = [.ref a] ∧ EfAt C H a dx ls la e ∧ ∀ v H', Same H H' → TkAt H' v e.tk → Q v H'
theorem m_Effect_ticket_now (T : TX P K mg Z) : MethOk P w K mg base Z.Effect "ticket_now" ["self"] 1 (spTkNow Z.Effect) := by
  refine T.mt_Effect_ticket_now.ok T.cl_Effect sc_Effect_ticket_now (by rintro _ _ _ _ ⟨_, _, _, _, _, rfl, _⟩; rfl) fun f cdv A outer s H vs Q E hr h => ?_
  obtain ⟨a, dx, ls, la, e, rfl, x, q⟩ := h
  refine ⟨_, (pss_one (ps_ret (pe_tup (pa_cons (kFld (K := K) (pv 0) rfl) (pa_cons (kFld (K := K) (pv 0) rfl) (pa_cons (kFld (K := K) (pv 0) rfl) (pa_cons (kFld (K := K) (pv 0) rfl) (pa_cons (kFld (K := K) (pv 0) rfl) pa_nil)))))))), ?_⟩
  walk_at "rn"
  refine ⟨_, _, _, x.ins, T.cl_Effect, T.na_Effect_status, _, rfl, _, _, _, x.ins, T.cl_Effect, T.na_Effect_desk, _, rfl, _, _, _, x.ins, T.cl_Effect, T.na_Effect_answered, _, rfl, _, _, _, x.ins, T.cl_Effect, T.na_Effect_days, _, rfl, _, _, _, x.ins, T.cl_Effect, T.na_Effect_marked, _, rfl, by decide +kernel, ?_⟩
  walk_at "lay"
  rename_i p H1 s1 n1 e1
  exact q _ H1 s1 ⟨p, rfl, e1⟩
theorem sh_ssb {H : Hp} {v : V} {a b : Str} {c : Bool} (h : Dp K H v (.tuple [.str a, .str b, .bool c])) : ∃ p, v = .ref p ∧ SqT K H p [.str a, .str b, .bl c] := by
  obtain ⟨p, xs, rfl, hs, d⟩ := dp_tup h
  cases d with | cons h1 d => cases d with | cons h2 d => cases d with | cons h3 d =>
  cases d
  cases dp_str h1
  cases dp_str h2
  cases dp_bool h3
  exact ⟨p, rfl, hs⟩
theorem sh_sb {H : Hp} {v : V} {a : Str} {c : Bool} (h : Dp K H v (.tuple [.str a, .bool c])) : ∃ p, v = .ref p ∧ SqT K H p [.str a, .bl c] := by
  obtain ⟨p, xs, rfl, hs, d⟩ := dp_tup h
  cases d with | cons h1 d => cases d with | cons h2 d =>
  cases d
  cases dp_str h1
  cases dp_bool h2
  exact ⟨p, rfl, hs⟩
theorem sh_ss {H : Hp} {v : V} {a b : Str} (h : Dp K H v (.tuple [.str a, .str b])) : ∃ p, v = .ref p ∧ SqT K H p [.str a, .str b] := by
  obtain ⟨p, xs, rfl, hs, d⟩ := dp_tup h
  cases d with | cons h1 d => cases d with | cons h2 d =>
  cases d
  cases dp_str h1
  cases dp_str h2
  exact ⟨p, rfl, hs⟩
theorem sh_si {H : Hp} {v : V} {a : Str} {c : Int} (h : Dp K H v (.tuple [.str a, .int c])) : ∃ p, v = .ref p ∧ SqT K H p [.str a, .int c] := by
  obtain ⟨p, xs, rfl, hs, d⟩ := dp_tup h
  cases d with | cons h1 d => cases d with | cons h2 d =>
  cases d
  cases dp_str h1
  cases dp_int h2
  exact ⟨p, rfl, hs⟩
theorem sh_s {H : Hp} {v : V} {a : Str} (h : Dp K H v (.tuple [.str a])) : ∃ p, v = .ref p ∧ SqT K H p [.str a] := by
  obtain ⟨p, xs, rfl, hs, d⟩ := dp_tup h
  cases d with | cons h1 d =>
  cases d
  cases dp_str h1
  exact ⟨p, rfl, hs⟩
def spHolds (K : PySem.W.Frag) (C : Addr) : Sp := fun vs H Q _ => ∃ a dx ls la e v d dsk, vs = [.ref a, v] ∧ EfAt C H a dx ls la e ∧ Dp K H v d ∧ TestIs dsk d ∧ Q (.bl (holdsT e.tk d)) H
theorem m_Effect_holds (T : TX P K mg Z) : MethOk P w K mg base Z.Effect "holds" ["self", "test"] 1 (spHolds K Z.Effect) := by
  refine T.mt_Effect_holds.ok T.cl_Effect sc_Effect_holds (by rintro _ _ _ _ ⟨_, _, _, _, _, _, _, _, rfl, _⟩; rfl) fun f cdv A outer s H vs Q E hr h => ?_
  obtain ⟨a, dx, ls, la, e, v, d, dsk, rfl, x, hd, ti, q⟩ := h
  refine ⟨_, (pss_cons (ps_set (i := 2) sc_Effect_holds.nd rfl (by first | exact Or.inl rfl | exact Or.inr rfl) (pe_ix (kIx (K := K)) (pv 1) pe_int (fun _ _ => rfl))) (pss_cons (ps_if (pt_cmpR (kEq (K := K) hr.units) (pv 2) pe_str (nomark _)) (pss_one (ps_ret (pe_cmpR (kEq (K := K) hr.units) (pe_cmpR (kEq (K := K) hr.units) (kFld (K := K) (pv 0) rfl) (pe_ix (kIx (K := K)) (pv 1) pe_int (fun _ _ => rfl)) (nomark _)) (pe_ix (kIx (K := K)) (pv 1) pe_int (fun _ _ => rfl)) (nomark _)))) pss_nil) (pss_cons (ps_if (pt_cmpR (kEq (K := K) hr.units) (pv 2) pe_str (nomark _)) (pss_one (ps_ret (pe_cmpR (kEq (K := K) hr.units) (pe_cmpR (kEq (K := K) hr.units) (kFld (K := K) (pv 0) rfl) (pe_ix (kIx (K := K)) (pv 1) pe_int (fun _ _ => rfl)) (nomark _)) (pe_ix (kIx (K := K)) (pv 1) pe_int (fun _ _ => rfl)) (nomark _)))) pss_nil) (pss_cons (ps_if (pt_cmpR (kEq (K := K) hr.units) (pv 2) pe_str (nomark _)) (pss_one (ps_ret (pe_cmpR (kEq (K := K) hr.units) (kFld (K := K) (pv 0) rfl) (pe_ix (kIx (K := K)) (pv 1) pe_int (fun _ _ => rfl)) (nomark _)))) pss_nil) (pss_cons (ps_if (pt_cmpR (kEq (K := K) hr.units) (pv 2) pe_str (nomark _)) (pss_one (ps_ret (pe_cmpR (kEq (K := K) hr.units) (kFld (K := K) (pv 0) rfl) (pe_ix (kIx (K := K)) (pv 1) pe_int (fun _ _ => rfl)) (nomark _)))) pss_nil) (pss_one (ps_ret (pe_cmpR op_ge (kFld (K := K) (pv 0) rfl) (pe_ix (kIx (K := K)) (pv 1) pe_int (fun _ _ => rfl)) (nomark _))))))))), ?_⟩
  walk_at "rn"
  cases ti with
  | status z b hz =>
    obtain ⟨p, rfl, hs⟩ := sh_ssb hd
    refine ix_t hs rfl ?_
    walk_at "rn"
    refine ⟨_, _, _, x.ins, T.cl_Effect, T.na_Effect_status, _, rfl, ix_t hs rfl ?_⟩
    walk_at "rn"
    refine ix_t hs rfl ?_
    walk_at "rn"
    exact q
  | desk z b hz =>
    obtain ⟨p, rfl, hs⟩ := sh_ssb hd
    refine ix_t hs rfl ?_
    walk_at "rn"
    refine ⟨_, _, _, x.ins, T.cl_Effect, T.na_Effect_desk, _, rfl, ix_t hs rfl ?_⟩
    walk_at "rn"
    refine ix_t hs rfl ?_
    walk_at "rn"
    exact q
  | answered b =>
    obtain ⟨p, rfl, hs⟩ := sh_sb hd
    refine ix_t hs rfl ?_
    walk_at "rn"
    refine ⟨_, _, _, x.ins, T.cl_Effect, T.na_Effect_answered, _, rfl, ix_t hs rfl ?_⟩
    walk_at "rn"
    exact q
  | marked b =>
    obtain ⟨p, rfl, hs⟩ := sh_sb hd
    refine ix_t hs rfl ?_
    walk_at "rn"
    refine ⟨_, _, _, x.ins, T.cl_Effect, T.na_Effect_marked, _, rfl, ix_t hs rfl ?_⟩
    walk_at "rn"
    exact q
  | days n l u =>
    obtain ⟨p, rfl, hs⟩ := sh_si hd
    refine ix_t hs rfl ?_
    walk_at "rn"
    refine ⟨_, _, _, x.ins, T.cl_Effect, T.na_Effect_days, _, rfl, ix_t hs rfl ?_⟩
    walk_at "rn"
    exact q
theorem EfAt.up {C : Addr} {H : Hp} {a dx ls la : Addr} {e e' : Ef} (x : EfAt C H a dx ls la e) (h1 : e'.events = e.events) (h2 : e'.acted = e.acted) : EfAt C (upd H a (.ins C dx (efFields e' ls la))) a dx ls la e' :=
  ⟨upd_same, by rw [upd_ne x.nls, h1]; exact x.ev, by rw [upd_ne x.nla, h2]; exact x.ac, x.ne⟩
theorem EfAt.upP {C : Addr} {H : Hp} {a dx ls la : Addr} {e e' : Ef} {f : Str} {v : V} (x : EfAt C H a dx ls la e) (h1 : e'.events = e.events) (h2 : e'.acted = e.acted) (h3 : putF f v (efFields e ls la) = efFields e' ls la) : EfAt C (upd H a (.ins C dx (putF f v (efFields e ls la)))) a dx ls la e' := by
  rw [h3]
  exact x.up h1 h2
theorem EfAt.push {C : Addr} {H : Hp} {a dx ls la : Addr} {e : Ef} {z : Str} (x : EfAt C H a dx ls la e) : EfAt C (upd H ls (.lst (e.events.map V.str ++ [V.str z]))) a dx ls la { e with events := e.events ++ [z] } :=
  ⟨by rw [upd_ne (Ne.symm x.nls)]; exact x.ins, by rw [upd_same, List.map_append]; rfl, by rw [upd_ne (Ne.symm x.ne)]; exact x.ac, x.ne⟩
theorem EfAt.pushA {C : Addr} {H : Hp} {a dx ls la : Addr} {e : Ef} {z : Int} (x : EfAt C H a dx ls la e) : EfAt C (upd H la (.lst (e.acted.map V.int ++ [V.int z]))) a dx ls la { e with acted := e.acted ++ [z] } :=
  ⟨by rw [upd_ne (Ne.symm x.nla)]; exact x.ins, by rw [upd_ne x.ne]; exact x.ev, by rw [upd_same, List.map_append]; rfl, x.ne⟩
theorem Ch.rfl {a ls la : Addr} {H : Hp} : Ch a ls la H H := fun _ _ _ e => e
theorem Ch.trans {a ls la : Addr} {H H1 H2 : Hp} (k : Ch a ls la H H1) (j : Ch a ls la H1 H2) : Ch a ls la H H2 := fun b o n e => j b o n (k b o n e)
theorem Ch.up {a ls la : Addr} {H : Hp} {o : HO} : Ch a ls la H (upd H a o) := fun b o n e => by rw [upd_ne fun c => n (.inl c)]; exact e
theorem Ch.upL {a ls la : Addr} {H : Hp} {o : HO} : Ch a ls la H (upd H ls o) := fun b o n e => by rw [upd_ne fun c => n (.inr (.inl c))]; exact e
theorem Ch.upA {a ls la : Addr} {H : Hp} {o : HO} : Ch a ls la H (upd H la o) := fun b o n e => by rw [upd_ne fun c => n (.inr (.inr c))]; exact e
theorem sz_of {n : Nat} (h : n < 4096) : n < sizeLine := Nat.lt_of_lt_of_le h (by decide)
def spAct (C : Addr) (step : Ef → Str → Ef) : Sp := fun vs H Q _ => ∃ a dx ls la e z, vs = [.ref a, .str z] ∧ EfAt C H a dx ls la e ∧ e.events.length < 4096 ∧ ∀ H', Ch a ls la H H' → EfAt C H' a dx ls la (step e z) → Q .non H'
theorem m_Effect_set_status (T : TX P K mg Z) : MethOk P w K mg base Z.Effect "set_status" ["self", "status"] 1 (spAct Z.Effect setS) := by
  refine T.mt_Effect_set_status.ok T.cl_Effect sc_Effect_set_status (by rintro _ _ _ _ ⟨_, _, _, _, _, _, rfl, _⟩; rfl) fun f cdv A outer s H vs Q E hr h => ?_
  obtain ⟨a, dx, ls, la, e, z, rfl, x, sz, q⟩ := h
  refine ⟨_, (pss_one (ps_if (pt_cmpR (kNe (K := K) hr.units) (kFld (K := K) (pv 0) rfl) (pv 1) (nomark _)) (pss_cons (ps_fld (pv 0) (pv 1) rfl) (pss_cons (ps_expr (kBm (K := K) PySem.F.plainAttrs_list PySem.F.slot_list_append PySem.F.type_list_append mt_append (kFld (K := K) (pv 0) rfl) (pa_cons pe_str pa_nil))) (pss_one (ps_if (pt_cmpR (kEq (K := K) hr.units) (pv 1) pe_str (nomark _)) (pss_one (ps_fld (pv 0) pe_bl rfl)) pss_nil)))) pss_nil)), ?_⟩
  walk_at "rn"
  refine ⟨_, _, _, x.ins, T.cl_Effect, T.na_Effect_status, _, rfl, ?_⟩
  walk_at "rn"
  by_cases c : e.tk.status = z
  · rw [if_neg (by simp [c])]
    exact q H Ch.rfl (by unfold setS; rw [if_pos c]; exact x)
  · rw [if_pos (by simp [c])]
    refine ⟨_, _, _, x.ins, T.cl_Effect, T.na_Effect_status, by simp [efFields], ?_⟩
    generalize eG1 : upd H a _ = H1
    have x1 : EfAt Z.Effect H1 a dx ls la { e with tk := { e.tk with status := z } } := by rw [← eG1]; exact x.upP rfl rfl rfl
    have k1 : Ch a ls la H H1 := by rw [← eG1]; exact Ch.up
    refine ⟨_, _, _, x1.ins, T.cl_Effect, T.na_Effect_events, _, rfl, .inl ⟨rfl, _, .inl (.inl x1.ev)⟩, ls, _, _, rfl, rfl, x1.ev, by rw [List.length_map]; exact sz_of sz, ?_⟩
    have x2 := x1.push (z := "status")
    have k2 := k1.trans (Ch.upL (la := la) (o := .lst (e.events.map V.str ++ [V.str "status"])))
    dsimp only
    by_cases d : z = "closed"
    · rw [if_pos (by rw [decide_eq_true d])]
      refine ⟨_, _, _, x2.ins, T.cl_Effect, T.na_Effect_closed_by_rule, by simp [efFields], ?_⟩
      refine q _ (k2.trans Ch.up) ?_
      have x3 := x2.up (e' := { e with tk := { e.tk with status := z }, events := e.events ++ [("status" : Str)], closed := true }) rfl rfl
      unfold setS
      rw [if_neg c, decide_eq_true d, Bool.or_true]
      exact x3
    · rw [if_neg (by rw [decide_eq_false d]; exact Bool.false_ne_true)]
      refine q _ k2 ?_
      unfold setS
      rw [if_neg c, decide_eq_false d, Bool.or_false]
      exact x2
theorem m_Effect_move (T : TX P K mg Z) : MethOk P w K mg base Z.Effect "move" ["self", "desk"] 1 (spAct Z.Effect moveS) := by
  refine T.mt_Effect_move.ok T.cl_Effect sc_Effect_move (by rintro _ _ _ _ ⟨_, _, _, _, _, _, rfl, _⟩; rfl) fun f cdv A outer s H vs Q E hr h => ?_
  obtain ⟨a, dx, ls, la, e, z, rfl, x, sz, q⟩ := h
  refine ⟨_, (pss_one (ps_if (pt_cmpR (kNe (K := K) hr.units) (kFld (K := K) (pv 0) rfl) (pv 1) (nomark _)) (pss_cons (ps_fld (pv 0) (pv 1) rfl) (pss_one (ps_expr (kBm (K := K) PySem.F.plainAttrs_list PySem.F.slot_list_append PySem.F.type_list_append mt_append (kFld (K := K) (pv 0) rfl) (pa_cons pe_str pa_nil))))) pss_nil)), ?_⟩
  walk_at "rn"
  refine ⟨_, _, _, x.ins, T.cl_Effect, T.na_Effect_desk, _, rfl, ?_⟩
  walk_at "rn"
  by_cases c : e.tk.desk = z
  · rw [if_neg (by simp [c])]
    exact q H Ch.rfl (by unfold moveS; rw [if_pos c]; exact x)
  · rw [if_pos (by simp [c])]
    refine ⟨_, _, _, x.ins, T.cl_Effect, T.na_Effect_desk, by simp [efFields], ?_⟩
    generalize eG1 : upd H a _ = H1
    have x1 : EfAt Z.Effect H1 a dx ls la { e with tk := { e.tk with desk := z } } := by rw [← eG1]; exact x.upP rfl rfl rfl
    have k1 : Ch a ls la H H1 := by rw [← eG1]; exact Ch.up
    refine ⟨_, _, _, x1.ins, T.cl_Effect, T.na_Effect_events, _, rfl, .inl ⟨rfl, _, .inl (.inl x1.ev)⟩, ls, _, _, rfl, rfl, x1.ev, by rw [List.length_map]; exact sz_of sz, ?_⟩
    refine q _ (k1.trans Ch.upL) ?_
    have x2 := x1.push (z := "moved")
    unfold moveS
    rw [if_neg c]
    exact x2
def spReply (C : Addr) : Sp := fun vs H Q _ => ∃ a dx ls la e, vs = [.ref a] ∧ EfAt C H a dx ls la e ∧ e.events.length < 4096 ∧ ∀ H', Ch a ls la H H' → EfAt C H' a dx ls la (replyS e) → Q .non H'
theorem m_Effect_send_reply (T : TX P K mg Z) : MethOk P w K mg base Z.Effect "send_reply" ["self"] 1 (spReply Z.Effect) := by
  refine T.mt_Effect_send_reply.ok T.cl_Effect sc_Effect_send_reply (by rintro _ _ _ _ ⟨_, _, _, _, _, rfl, _⟩; rfl) fun f cdv A outer s H vs Q E hr h => ?_
  obtain ⟨a, dx, ls, la, e, rfl, x, sz, q⟩ := h
  refine ⟨_, (pss_cons (ps_if (pt_val (kFld (K := K) (pv 0) rfl)) (pss_one (ps_fld (pv 0) pe_bl rfl)) pss_nil) (pss_cons (ps_fld (pv 0) pe_bl rfl) (pss_cons (ps_fld (pv 0) pe_int rfl) (pss_cons (ps_fldaug (pv 0) pe_int in_add) (pss_one (ps_expr (kBm (K := K) PySem.F.plainAttrs_list PySem.F.slot_list_append PySem.F.type_list_append mt_append (kFld (K := K) (pv 0) rfl) (pa_cons pe_str pa_nil)))))))), ?_⟩
  walk_at "rn"
  refine ⟨_, _, _, x.ins, T.cl_Effect, T.na_Effect_answered, _, rfl, e.tk.answered, rfl, ?_⟩
  cases c : e.tk.answered
  · rw [if_neg Bool.false_ne_true]
    refine ⟨_, _, _, x.ins, T.cl_Effect, T.na_Effect_answered, by simp [efFields], ?_⟩
    generalize eG2 : upd H a _ = H2
    have x2 : EfAt Z.Effect H2 a dx ls la { e with tk := { e.tk with answered := true } } := by rw [← eG2]; exact x.upP rfl rfl rfl
    have k2 : Ch a ls la H H2 := by rw [← eG2]; exact Ch.up
    refine ⟨_, _, _, x2.ins, T.cl_Effect, T.na_Effect_days, by simp [efFields], ?_⟩
    generalize eG3 : upd H2 a _ = H3
    have x3 : EfAt Z.Effect H3 a dx ls la { e with tk := { e.tk with answered := true, days := 0 } } := by rw [← eG3]; exact x2.upP rfl rfl rfl
    have k3 : Ch a ls la H2 H3 := by rw [← eG3]; exact Ch.up
    refine ⟨_, _, _, x3.ins, T.cl_Effect, T.na_Effect_sent, _, rfl, _, _, rfl, rfl, _, _, x3.ins, by simp [efFields], ?_⟩
    generalize eG4 : upd H3 a _ = H4
    have x4 : EfAt Z.Effect H4 a dx ls la { e with tk := { e.tk with answered := true, days := 0 }, sent := e.sent + 1 } := by rw [← eG4]; exact x3.upP rfl rfl rfl
    have k4 : Ch a ls la H3 H4 := by rw [← eG4]; exact Ch.up
    refine ⟨_, _, _, x4.ins, T.cl_Effect, T.na_Effect_events, _, rfl, .inl ⟨rfl, _, .inl (.inl x4.ev)⟩, ls, _, _, rfl, rfl, x4.ev, by rw [List.length_map]; exact sz_of sz, ?_⟩
    have k5 : Ch a ls la H H4 := k2.trans (k3.trans k4)
    refine q _ (k5.trans Ch.upL) ?_
    have x5 := x4.push (z := "replied")
    unfold replyS
    rw [c]
    rw [Bool.or_false]
    exact x5
  · rw [if_pos rfl]
    refine ⟨_, _, _, x.ins, T.cl_Effect, T.na_Effect_sent_twice, by simp [efFields], ?_⟩
    generalize eG1 : upd H a _ = H1
    have x1 : EfAt Z.Effect H1 a dx ls la { e with twice := true } := by rw [← eG1]; exact x.upP rfl rfl rfl
    have k1 : Ch a ls la H H1 := by rw [← eG1]; exact Ch.up
    refine ⟨_, _, _, x1.ins, T.cl_Effect, T.na_Effect_answered, by simp [efFields], ?_⟩
    generalize eG2 : upd H1 a _ = H2
    have x2 : EfAt Z.Effect H2 a dx ls la { ({ e with twice := true } : Ef) with tk := { e.tk with answered := true } } := by rw [← eG2]; exact x1.upP rfl rfl rfl
    have k2 : Ch a ls la H1 H2 := by rw [← eG2]; exact Ch.up
    refine ⟨_, _, _, x2.ins, T.cl_Effect, T.na_Effect_days, by simp [efFields], ?_⟩
    generalize eG3 : upd H2 a _ = H3
    have x3 : EfAt Z.Effect H3 a dx ls la { ({ e with twice := true } : Ef) with tk := { e.tk with answered := true, days := 0 } } := by rw [← eG3]; exact x2.upP rfl rfl rfl
    have k3 : Ch a ls la H2 H3 := by rw [← eG3]; exact Ch.up
    refine ⟨_, _, _, x3.ins, T.cl_Effect, T.na_Effect_sent, _, rfl, _, _, rfl, rfl, _, _, x3.ins, by simp [efFields], ?_⟩
    generalize eG4 : upd H3 a _ = H4
    have x4 : EfAt Z.Effect H4 a dx ls la { ({ e with twice := true } : Ef) with tk := { e.tk with answered := true, days := 0 }, sent := e.sent + 1 } := by rw [← eG4]; exact x3.upP rfl rfl rfl
    have k4 : Ch a ls la H3 H4 := by rw [← eG4]; exact Ch.up
    refine ⟨_, _, _, x4.ins, T.cl_Effect, T.na_Effect_events, _, rfl, .inl ⟨rfl, _, .inl (.inl x4.ev)⟩, ls, _, _, rfl, rfl, x4.ev, by rw [List.length_map]; exact sz_of sz, ?_⟩
    have k5 : Ch a ls la H H4 := k1.trans (k2.trans (k3.trans k4))
    refine q _ (k5.trans Ch.upL) ?_
    have x5 := x4.push (z := "replied")
    unfold replyS
    rw [c]
    rw [Bool.or_true]
    exact x5
theorem EfAt.tups {C : Addr} {H H' : Hp} {a dx ls la : Addr} {e : Ef} (x : EfAt C H a dx ls la e) (k : Ch a ls la H H') : TupS K H H' := tups_of k fun b z => by
  rcases z with rfl | rfl | rfl
  · exact .inr (.inl ⟨_, _, _, x.ins⟩)
  · exact .inl ⟨_, x.ev⟩
  · exact .inl ⟨_, x.ac⟩
def spCarry (K : PySem.W.Frag) (C : Addr) : Sp := fun vs H Q _ => ∃ a dx ls la e v as dsk, vs = [.ref a, v] ∧ EfAt C H a dx ls la e ∧ Dp K H v (.tuple as) ∧ (∀ d ∈ as, ActIs dsk d) ∧ e.events.length + as.length < 4096 ∧ ∀ H', Ch a ls la H H' → EfAt C H' a dx ls la (carryT e as).1 → Q (.bl (carryT e as).2) H'
theorem m_Effect_carry_out (T : TX P K mg Z) : MethOk P w K mg base Z.Effect "carry_out" ["self", "actions"] 2 (spCarry K Z.Effect) := by
  refine T.mt_Effect_carry_out.ok T.cl_Effect sc_Effect_carry_out (by rintro _ _ _ _ ⟨_, _, _, _, _, _, _, _, rfl, _⟩; rfl) fun f cdv A outer s H vs Q E hr h => ?_
  obtain ⟨a, dx, ls, la, e, v, as, dsk, rfl, x, hd, ai, sz, q⟩ := h
  refine ⟨_, (pss_cons (ps_for (passes_of rfl) rfl (kSeq (K := K) (pv 1)) (pg_name (i := 2) sc_Effect_carry_out.nd rfl (by first | exact Or.inl rfl | exact Or.inr rfl)) (pss_cons (ps_set (i := 3) sc_Effect_carry_out.nd rfl (by first | exact Or.inl rfl | exact Or.inr rfl) (pe_ix (kIx (K := K)) (pv 2) pe_int (fun _ _ => rfl))) (pss_cons (ps_if (pt_cmpR (kEq (K := K) hr.units) (pv 3) pe_str (nomark _)) (pss_one (ps_ret pe_bl)) pss_nil) (pss_one (ps_if (pt_cmpR (kEq (K := K) hr.units) (pv 3) pe_str (nomark _)) (pss_one (ps_expr (pe_methD (m_Effect_set_status T) hr (pv 0) passL (pa_cons (pe_ix (kIx (K := K)) (pv 2) pe_int (fun _ _ => rfl)) pa_nil)))) (pss_one (ps_if (pt_cmpR (kEq (K := K) hr.units) (pv 3) pe_str (nomark _)) (pss_one (ps_expr (pe_methD (m_Effect_move T) hr (pv 0) passL (pa_cons (pe_ix (kIx (K := K)) (pv 2) pe_int (fun _ _ => rfl)) pa_nil)))) (pss_one (ps_if (pt_cmpR (kEq (K := K) hr.units) (pv 3) pe_str (nomark _)) (pss_one (ps_expr (pe_methD0 (m_Effect_send_reply T) hr (pv 0) passL))) (pss_one (ps_fld (pv 0) (pe_ix (kIx (K := K)) (pv 2) pe_int (fun _ _ => rfl)) rfl))))))))))) (pss_one (ps_ret pe_bl))), ?_⟩
  walk_at "rn"
  obtain ⟨p, xs, rfl, hs, hda⟩ := dp_tup hd
  have ln := dps_len hda
  refine for_t ?_
  walk_at "rn"
  refine forTx hs (fun i σ H' => ∃ act wd e', σ = [some (.ref a), some (.ref p), act, wd] ∧ Ch a ls la H H' ∧ EfAt Z.Effect H' a dx ls la e' ∧ carryT e' (as.drop i) = carryT e as ∧ e'.events.length ≤ e.events.length + i) ⟨_, _, e, rfl, Ch.rfl, x, rfl, by omega⟩ (fun i σ H' _ z => by
    obtain ⟨_, _, _, _, k, _⟩ := z
    exact x.tups k _ _ hs) ?_ ?_
  · rintro i y σ H1 hy ⟨act, wd, e1, rfl, k1, x1, c1, l1⟩
    obtain ⟨d, hd1, dt⟩ := dps_get hda hy
    have hi : i < as.length := by
      rcases Nat.lt_or_ge i as.length with h | h
      · exact h
      · rw [List.getElem?_eq_none h] at hd1; cases hd1
    have ed : as.drop i = d :: as.drop (i + 1) := by
      rw [List.drop_eq_getElem_cons hi]
      rw [List.getElem?_eq_getElem hi] at hd1
      injection hd1 with hd1
      rw [hd1]
    have ad := ai d (List.mem_of_getElem? hd1)
    have dt1 : Dp K H1 y d := dp_ts (x.tups k1) 1 ad.tp dt
    have sz1 : e1.events.length < 4096 := by omega
    have le2 := actT_ev e1 d
    rw [ed] at c1
    walk_at "rn"
    cases ad with
    | status z hz =>
      obtain ⟨p1, rfl, hs1⟩ := sh_ss dt1
      refine ix_t hs1 rfl ?_
      walk_at "rn"
      rw [if_neg (by decide +kernel)]
      refine ⟨_, _, x1.ins, rfl, ix_t hs1 rfl ?_⟩
      exact ⟨a, dx, ls, la, e1, z, rfl, x1, sz1, fun H2 k2 x2 => ⟨k1.trans k2, _, x2, c1, by have : actT e1 (.tuple [.str "status", .str z]) = setS e1 z := rfl; rw [this] at le2; omega⟩⟩
    | desk z hz =>
      obtain ⟨p1, rfl, hs1⟩ := sh_ss dt1
      refine ix_t hs1 rfl ?_
      walk_at "rn"
      rw [if_neg (by decide +kernel), if_neg (by decide +kernel)]
      refine ⟨_, _, x1.ins, rfl, ix_t hs1 rfl ?_⟩
      exact ⟨a, dx, ls, la, e1, z, rfl, x1, sz1, fun H2 k2 x2 => ⟨k1.trans k2, _, x2, c1, by have : actT e1 (.tuple [.str "desk", .str z]) = moveS e1 z := rfl; rw [this] at le2; omega⟩⟩
    | reply =>
      obtain ⟨p1, rfl, hs1⟩ := sh_s dt1
      refine ix_t hs1 rfl ?_
      walk_at "rn"
      rw [if_neg (by decide +kernel), if_neg (by decide +kernel), if_neg (by decide +kernel)]
      refine ⟨_, _, x1.ins, rfl, ?_⟩
      exact ⟨a, dx, ls, la, e1, rfl, x1, sz1, fun H2 k2 x2 => ⟨k1.trans k2, _, x2, c1, by have : actT e1 (.tuple [.str "reply"]) = replyS e1 := rfl; rw [this] at le2; omega⟩⟩
    | mark b =>
      obtain ⟨p1, rfl, hs1⟩ := sh_sb dt1
      refine ix_t hs1 rfl ?_
      walk_at "rn"
      rw [if_neg (by decide +kernel), if_neg (by decide +kernel), if_neg (by decide +kernel), if_neg (by decide +kernel)]
      refine ix_t hs1 rfl ?_
      refine ⟨_, _, _, x1.ins, T.cl_Effect, T.na_Effect_marked, by simp [efFields], k1.trans Ch.up, markS e1 b, x1.upP rfl rfl rfl, c1, ?_⟩
      have : actT e1 (.tuple [.str "mark", .bool b]) = markS e1 b := rfl
      rw [this] at le2
      omega
    | stop =>
      obtain ⟨p1, rfl, hs1⟩ := sh_s dt1
      refine ix_t hs1 rfl ?_
      walk_at "rn"
      have c2 : carryT e as = (e1, true) := c1.symm
      rw [c2] at q
      exact q H1 k1 x1
  · rintro σ H1 ⟨act, wd, e1, rfl, k1, x1, c1, l1⟩
    rw [ln, List.drop_length] at c1
    have c2 : carryT e as = (e1, false) := c1.symm
    walk_at "rn"
    rw [c2] at q
    exact q H1 k1 x1
end
end Ld

set_option Elab.async false
set_option linter.all false
set_option maxRecDepth 100000
set_option maxHeartbeats 4000000
/-! Effect: the rules are tried. -/
namespace Ld
open PySem PySem.Spec PyProof.Rows L2
local macro_rules | `(tactic| walk_at "rd") => `(tactic| try simp only [tSeq, tNext, tRet, tRetN, tIfS, tTest, tB, tAnd, tOr, tNot, tAndV, tOrV, tNotV, tOp, tUn, tC, tVar, tCons, tNil, tCall, tCB, tAsg, tDrop, tChain, tIf, tYes, tBreak, tCont, tNever, tFld, sFld, sFldAug, tMeth, tMake, tRaiseF, tMkF, tM1, tOwn2S, tOwnIxS, tXf, tRevL, tMethS, tTup, tLst, tSl, tPart, tNoPart, tPar, tBM, tBM0, tLenSetT, tAug, gName, gTup, gCons, gNil, gStar2, gFld, gSub, rI0, rI, rU, rIxU, rIxS, rIn, rInU, rAddU, rSlU, rLenU, rTupU, rListU, rRep, rEqU_ss, rEqU_ii, rEqU_bb, rEqU_r, rNeU_ss, rNeU_ii, rNeU_bb, rNeU_r, cxOf, L2.start, wipe, List.map_cons, List.map_nil, List.length_cons, List.length_nil, List.replicate, List.cons_append, List.nil_append, List.append_nil, Nat.reduceSub, Nat.reduceAdd, List.getElem?_cons_zero, List.getElem?_cons_succ, List.set_cons_zero, List.set_cons_succ, Option.some.injEq, exists_eq_left', exists_eq_left, exists_eq, exists_and_left, V.bl.injEq, V.int.injEq, V.str.injEq, V.ref.injEq, V.ty.injEq, reduceCtorEq, false_and, and_false, exists_false, false_or, or_false, true_and, and_true, if_true, if_false, Bool.false_eq_true, ite_true, ite_false, reduceIte, decide_true, decide_false, Bool.not_true, Bool.not_false, Bool.not_eq_true, Bool.true_and, Bool.false_and, Bool.and_true, Bool.and_false, List.cons.injEq, and_assoc])
local macro_rules | `(tactic| walk_at "rn") => `(tactic| try simp only [tSeq, tNext, tRet, tRetN, tIfS, tTest, tB, tAnd, tOr, tNot, tAndV, tOrV, tNotV, tOp, tUn, tC, tVar, tCons, tNil, tCall, tCB, tAsg, tDrop, tChain, tIf, tYes, tBreak, tCont, tNever, tFld, sFld, sFldAug, tMeth, tMake, tRaiseF, tMkF, tM1, tOwn2S, tOwnIxS, tXf, tRevL, tMethS, tCallS, tMethK1, tDNewK, tRevT, Ends.cut, tDGet, rNotN, tNGet, sNPut, tNNew, tTup, tLst, tSl, tPart, tNoPart, tPar, tBM, tBM0, tLenSetT, tAug, gName, gTup, gCons, gNil, gStar2, gFld, gSub, rI0, rI, rU, rAddU_ii, tFor_rng, tLc_rng, rRep, rEqU_ss, rEqU_ii, rEqU_bb, rEqU_r, rNeU_ss, rNeU_ii, rNeU_bb, rNeU_r, cxOf, L2.start, wipe, List.map_cons, List.map_nil, List.length_cons, List.length_nil, List.replicate, List.cons_append, List.nil_append, List.append_nil, Nat.reduceSub, Nat.reduceAdd, List.getElem?_cons_zero, List.getElem?_cons_succ, List.set_cons_zero, List.set_cons_succ, Option.some.injEq, exists_eq_left', exists_eq_left, exists_eq, exists_and_left, V.bl.injEq, V.int.injEq, V.str.injEq, V.ref.injEq, V.ty.injEq, reduceCtorEq, false_and, and_false, exists_false, false_or, or_false, true_and, and_true, if_true, if_false, Bool.false_eq_true, ite_true, ite_false, reduceIte, decide_true, decide_false, Bool.not_true, Bool.not_false, Bool.not_eq_true, Bool.true_and, Bool.false_and, Bool.and_true, Bool.and_false, List.cons.injEq, and_assoc])
local macro_rules | `(tactic| walk_at "lay") => `(tactic| (apply lay_new; intro l h qq s n e; rw [← qq]; clear qq))
section
variable {P : Program} {w : World} {K : PySem.W.Frag} {mg : Str → Option Value} {base : Heap} {Z : Ad}
theorem EfAt.tup {C : Addr} {H H' : Hp} {a dx ls la : Addr} {e : Ef} (x : EfAt C H a dx ls la e) (k : Ch a ls la H H') (p : Addr) (xs : List V) (h : H p = some (.tup xs)) : H' p = some (.tup xs) := k p _ (fun z => by
  rcases z with rfl | rfl | rfl
  · rw [x.ins] at h; cases h
  · rw [x.ev] at h; cases h
  · rw [x.ac] at h; cases h) h
def spTry (K : PySem.W.Frag) (C : Addr) : Sp := fun vs H Q _ => ∃ a dx ls la e rl xs rs dsk, vs = [.ref a, .ref rl] ∧ EfAt C H a dx ls la e ∧ H rl = some (.lst xs) ∧ rl ≠ ls ∧ rl ≠ la ∧ Paired (RuAt K H dsk) xs rs ∧ rs.length ≤ 16 ∧ e.events.length ≤ 16 ∧ e.acted.length ≤ 16 ∧ ∀ H', Ch a ls la H H' → EfAt C H' a dx ls la (tryT e rs) → Q .non H'
theorem m_Effect_try_rules (T : TX P K mg Z) : MethOk P w K mg base Z.Effect "try_rules" ["self", "rules"] 4 (spTry K Z.Effect) := by
  refine T.mt_Effect_try_rules.ok T.cl_Effect sc_Effect_try_rules (by rintro _ _ _ _ ⟨_, _, _, _, _, _, _, _, _, rfl, _⟩; rfl) fun f cdv A outer s H vs Q E hr h => ?_
  obtain ⟨a, dx, ls, la, e, rl, xs, rs, dsk, rfl, x, hrl, nl, na, pr, l8, le, lac, q⟩ := h
  refine ⟨_, (pss_one (ps_for (passes_of rfl) rfl (kSeq (K := K) (pv 1)) (kTup (K := K) (n := 3) rfl (pgs_cons (pg_name (i := 2) sc_Effect_try_rules.nd rfl (by first | exact Or.inl rfl | exact Or.inr rfl)) (pgs_cons (pg_name (i := 3) sc_Effect_try_rules.nd rfl (by first | exact Or.inl rfl | exact Or.inr rfl)) (pgs_cons (pg_name (i := 4) sc_Effect_try_rules.nd rfl (by first | exact Or.inl rfl | exact Or.inr rfl)) pgs_nil)))) (pss_one (ps_if (pt_val (pe_callB (kAll (K := K) rfl) (by rfl) T.b_all (by decide +kernel) (pa_cons (pe_lc (own := [("test", 5)]) rfl sc_Effect_try_rules.nd (kSeq (K := K) (pv 3)) (blkOk_by (N := ["self", "rules", "index", "tests", "actions", "test"]) (sc := defScope s_Effect_try_rules) (own := [("test", 5)]) (by decide +kernel)) (fun _ _ _ _ _ => (pg_name (i := 5) sc_Effect_try_rules.nd rfl (by first | exact Or.inl rfl | exact Or.inr rfl))) (fun _ _ _ _ _ => pts_nil) (fun _ _ _ _ _ => (pe_methD (m_Effect_holds T) hr (pv 0) passL (pa_cons (pv 5) pa_nil)))) pa_nil))) (pss_cons (ps_expr (kBm (K := K) PySem.F.plainAttrs_list PySem.F.slot_list_append PySem.F.type_list_append mt_append (kFld (K := K) (pv 0) rfl) (pa_cons (pv 2) pa_nil))) (pss_one (ps_if (pt_val (pe_methD (m_Effect_carry_out T) hr (pv 0) passL (pa_cons (pv 4) pa_nil))) (pss_one ps_retN) pss_nil))) pss_nil)))), ?_⟩
  walk_at "rn"
  have nra : rl ≠ a := fun c => by rw [c, x.ins] at hrl; cases hrl
  have ln : xs.length = rs.length := pr.length
  refine for_l ?_
  walk_at "rn"
  refine forLx (.inl (.inl hrl)) (fun i σ H' => ∃ ix ts ac tt e', σ = [some (.ref a), some (.ref rl), ix, ts, ac, tt] ∧ Ch a ls la H H' ∧ EfAt Z.Effect H' a dx ls la e' ∧ tryT e' (rs.drop i) = tryT e rs ∧ e'.events.length ≤ 16 + 100 * i ∧ e'.acted.length ≤ 16 + i) ⟨_, _, _, _, e, rfl, Ch.rfl, x, rfl, by omega, by omega⟩ (fun i σ H' _ z => by
    obtain ⟨_, _, _, _, _, _, k, _⟩ := z
    exact .inl (.inl (k _ _ (fun z => by rcases z with z | z | z; exact nra z; exact nl z; exact na z) hrl))) ?_ ?_
  · rintro i y σ H1 hy ⟨ix, ts, ac, tt, e1, rfl, k1, x1, c1, l1, l2⟩
    obtain ⟨r, hr1, ra⟩ := paired_get pr hy
    have hi : i < rs.length := by
      rcases Nat.lt_or_ge i rs.length with h | h
      · exact h
      · rw [List.getElem?_eq_none h] at hr1; cases hr1
    have ed : rs.drop i = r :: rs.drop (i + 1) := by
      rw [List.drop_eq_getElem_cons hi]
      rw [List.getElem?_eq_getElem hi] at hr1
      injection hr1 with hr1
      rw [hr1]
    rw [ed] at c1
    obtain ⟨p, t1, t2, rfl, ep, d1, d2, tst, ats, n1, n2⟩ := ra.keep (x.tups k1) (x.tup k1)
    walk_at "rn"
    refine ⟨_, .inl (.inl ep), rfl, _, _, rfl, _, _, rfl, _, _, rfl, rfl, ?_⟩
    obtain ⟨pt, ys, rfl, hpt, hys⟩ := dp_tup d1
    have lys := dps_len hys
    refine lc_t ?_
    walk_at "rn"
    refine lcTf (fun H' s' => same_seqT s' hpt) (by rw [lys]; exact Nat.lt_of_le_of_lt n1 (by decide)) (fun i => ((r.2.1.take i).map (holdsT e1.tk)).map V.bl) rfl (fun i => by simp; omega) ?_ ?_
    · intro j y H2 N hy2 s2 nf nt
      obtain ⟨d, hd1, dt⟩ := dps_get hys hy2
      walk_at "rn"
      refine ⟨_, _, (x1.same s2).ins, rfl, a, dx, ls, la, e1, y, d, dsk, rfl, x1.same s2, dpSame s2 dt, tst d (List.mem_of_getElem? hd1), ?_⟩
      exact nt _ H2 (Same.refl H2) (by rw [List.take_add_one, hd1]; simp)
    · intro D H2 nD s2 eD
      have x2 := x1.same s2
      rw [lys, List.take_length] at eD
      refine rAll_bs eD ?_
      walk_at "rn"
      rw [List.all_map]
      have eq1 : (r.2.1.all (id ∘ holdsT e1.tk)) = r.2.1.all (holdsT e1.tk) := rfl
      rw [eq1]
      have kD : Ch a ls la H H2 := k1.trans fun b o nb e => s2 _ _ e
      by_cases c : r.2.1.all (holdsT e1.tk) = true
      · rw [if_pos c]
        refine ⟨_, _, _, x2.ins, T.cl_Effect, T.na_Effect_acted, _, rfl, .inl ⟨rfl, _, .inl (.inl x2.ac)⟩, la, _, _, rfl, rfl, x2.ac, by rw [List.length_map]; exact sz_of (by omega), ?_⟩
        have x3 := x2.pushA (z := r.1)
        have d2' : Dp K (upd H2 la (.lst (e1.acted.map V.int ++ [V.int r.1]))) t2 (.tuple r.2.2) := dp_ts (x2.tups Ch.upA) 2 (fun x m => (ats x m).tp) (dpSame s2 d2)
        refine ⟨_, _, x3.ins, rfl, a, dx, ls, la, _, t2, r.2.2, dsk, rfl, x3, d2', ats, by dsimp only; omega, fun H4 k4 x4 => ?_⟩
        walk_at "rn"
        have k5 := kD.trans (Ch.upA.trans k4)
        cases cs : (carryT { e1 with acted := e1.acted ++ [r.1] } r.2.2).2
        · rw [if_neg Bool.false_ne_true]
          have ce := carryT_ev { e1 with acted := e1.acted ++ [r.1] } r.2.2
          have ca := carryT_ac { e1 with acted := e1.acted ++ [r.1] } r.2.2
          refine ⟨k5, _, x4, ?_, by dsimp only at ce; omega, by rw [ca]; simp only [List.length_append, List.length_singleton]; omega⟩
          rw [← c1]
          obtain ⟨ri, rt, rc⟩ := r
          show _ = if rt.all (holdsT e1.tk) = true then (if (carryT { e1 with acted := e1.acted ++ [ri] } rc).2 = true then _ else _) else _
          rw [if_pos c, if_neg (by rw [cs]; exact Bool.false_ne_true)]
        · rw [if_pos rfl]
          have c2 : tryT e rs = (carryT { e1 with acted := e1.acted ++ [r.1] } r.2.2).1 := by
            rw [← c1]
            obtain ⟨ri, rt, rc⟩ := r
            show (if rt.all (holdsT e1.tk) = true then (if (carryT { e1 with acted := e1.acted ++ [ri] } rc).2 = true then _ else _) else _) = _
            rw [if_pos c, if_pos cs]
          rw [c2] at q
          exact q H4 k5 x4
      · rw [if_neg c]
        refine ⟨kD, e1, x2, ?_, by omega, by omega⟩
        rw [← c1]
        obtain ⟨ri, rt, rc⟩ := r
        show _ = if rt.all (holdsT e1.tk) = true then _ else _
        rw [if_neg c]
  · rintro σ H1 ⟨ix, ts, ac, tt, e1, rfl, k1, x1, c1, l1, l2⟩
    rw [ln, List.drop_length] at c1
    have c2 : tryT e rs = e1 := c1.symm
    walk_at "rn"
    rw [c2] at q
    exact q H1 k1 x1
end
end Ld

set_option Elab.async false
set_option linter.all false
set_option maxRecDepth 100000
set_option maxHeartbeats 2000000
/-! A deed and its events, in plain words; what stays when lists and objects change. -/
namespace Ld
open PySem PySem.Spec PyProof.Rows L2
/-! ### what stays -/
/-- no tuple stands there -/
def Soft (H : Hp) (b : Addr) : Prop := H b = none ∨ (∃ xs, H b = some (.lst xs)) ∨ (∃ C dx fs, H b = some (.ins C dx fs)) ∨ ∃ p, H b = some (.ext p)
structure Tps (K : PySem.W.Frag) (H H' : Hp) : Prop where
  t : TupS K H H'
  p : ∀ a xs, H a = some (.tup xs) → H' a = some (.tup xs)
theorem tps_of {K : PySem.W.Frag} {H H' : Hp} {bad : Addr → Prop} (k : Keep bad H H') (hb : ∀ b, bad b → Soft H b) : Tps K H H' := by
  have go : ∀ b o, H b = some o → (∀ xs, o ≠ .lst xs) → (∀ C dx fs, o ≠ .ins C dx fs) → (∀ p, o ≠ .ext p) → H' b = some o := fun b o e n1 n2 n3 => k b o (fun z => by
    rcases hb b z with h | ⟨x, h⟩ | ⟨c, d, f, h⟩ | ⟨p, h⟩
    · rw [h] at e; cases e
    · rw [h] at e; injection e with e; exact n1 _ e.symm
    · rw [h] at e; injection e with e; exact n2 _ _ _ e.symm
    · rw [h] at e; injection e with e; exact n3 _ e.symm) e
  refine ⟨fun b xs h => ?_, fun a xs h => go a _ h (fun _ => nofun) (fun _ _ _ => nofun) fun _ => nofun⟩
  rcases h with (h | ⟨o, h⟩) | h
  · exact .inl (.inl (go _ _ h (fun _ => nofun) (fun _ _ _ => nofun) fun _ => nofun))
  · exact .inl (.inr ⟨o, go _ _ h (fun _ => nofun) (fun _ _ _ => nofun) fun _ => nofun⟩)
  · exact .inr h
theorem Tps.of {K : PySem.W.Frag} {H H' : Hp} (s : Same H H') : Tps K H H' := ⟨TupS.of s, fun _ _ e => s _ _ e⟩
theorem Tps.trans {K : PySem.W.Frag} {H H1 H2 : Hp} (h : Tps K H H1) (g : Tps K H1 H2) : Tps K H H2 := ⟨h.t.trans g.t, fun a xs e => g.p a xs (h.p a xs e)⟩
theorem TkAt.keep {K : PySem.W.Frag} {H H' : Hp} {v : V} {t : Tk} (h : TkAt H v t) (k : Tps K H H') : TkAt H' v t := by
  obtain ⟨a, rfl, e⟩ := h
  exact ⟨a, rfl, k.p _ _ e⟩
/-! ### a deed and its events -/
def evV : Option Str → V
  | none => .non
  | some z => .str z
structure Tn where
  event : Option Str
  behind : Tk
  acted : List Int
  sent : Int
  endless : Bool
  closed : Bool
  twice : Bool
  kinds : List Str
def tnNew (e : Option Str) (t : Tk) : Tn := ⟨e, t, [], 0, false, false, false, []⟩
def takeT (t : Tn) (e : Ef) : Tn := { t with behind := e.tk, acted := t.acted ++ e.acted, sent := t.sent + e.sent, closed := t.closed || e.closed, twice := t.twice || e.twice }
def oneIf (b : Bool) (z : Str) : List Str := if b = true then [z] else []
def kindsT (t : Tn) : List Str :=
  oneIf t.endless "endless" ++ oneIf (t.closed && (decide (t.behind.status = "closed") && !t.behind.answered)) "unanswered" ++ oneIf t.twice "twice" ++ oneIf (decide (t.event = some ("letter" : Str)) && decide (t.acted.length = 0)) "untouched"
/-- the events that are left, handled one by one -/
def queueT (ef : Str → Tk → Ef) : Nat → List Str → Tn → List Str × Tn
  | 0, q, t => (q, t)
  | _ + 1, [], t => ([], t)
  | k + 1, e :: q, t => queueT ef k (q ++ (ef e t.behind).events) (takeT t (ef e t.behind))
def firstQ : Option Str → List Str
  | none => []
  | some z => [z]
def endT (r : List Str × Tn) : Tn := { r.2 with endless := !r.1.isEmpty, kinds := kindsT { r.2 with endless := !r.1.isEmpty } }
def runT (ef : Str → Tk → Ef) (e : Option Str) (t : Tk) : Tn := endT (queueT ef 50 (firstQ e) (tnNew e t))
/-- what the deed itself does -/
def begunT (dsk : List Str) (tk : Option Tk) (d : PyData) : Option Str × Tk :=
  let t := tk.getD ⟨"new", dsk.headD ("" : Str), false, 0, false⟩
  match d with
  | .tuple [.str k] => if k = "letter" then (some ("letter" : Str), { t with answered := false, days := 0 }) else if k = "answer" then (some ("answer" : Str), { t with answered := true, days := 0 }) else (some ("day" : Str), { t with days := t.days + 1 })
  | .tuple [.str k, .str z] => if k = "hand" then (if t.desk = z then none else some ("moved" : Str), { t with desk := z }) else (if t.status = z then none else some ("status" : Str), { t with status := z })
  | _ => (none, t)
def turnT (ef : Str → Tk → Ef) (dsk : List Str) (tk : Option Tk) (d : PyData) : Tn := runT ef (begunT dsk tk d).1 (begunT dsk tk d).2
def turnsT (ef : Str → Tk → Ef) (dsk : List Str) : Option Tk → List PyData → List Tn
  | _, [] => []
  | tk, d :: r => turnT ef dsk tk d :: turnsT ef dsk (some (turnT ef dsk tk d).behind) r
def reportD (t : Tn) : PyData := .tuple [.list (t.acted.map PyData.int), .int t.sent, .tuple [.str t.behind.status, .str t.behind.desk, .bool t.behind.answered, .int t.behind.days, .bool t.behind.marked], .bool t.endless]
/-- a rule, taken apart -/
theorem rule_of {dsk : List Str} {d : PyData} (h : isRuleD dsk d = true) : ∃ ev ts as, d = .tuple [.str ev, .tuple ts, .tuple as] ∧ ev ∈ eventsS ∧ ts.length ≤ 4 ∧ as.length ≤ 4 ∧ (∀ t ∈ ts, TestIs dsk t) ∧ ∀ a ∈ as, ActIs dsk a := by
  unfold isRuleD at h
  split at h
  · rename_i ev ts as
    simp only [Bool.and_eq_true, decide_eq_true_eq, List.all_eq_true] at h
    obtain ⟨⟨⟨⟨⟨h1, h2⟩, ht⟩, h3⟩, h4⟩, ha⟩ := h
    obtain ⟨z, rfl, hz⟩ := word_of h1
    exact ⟨z, ts, as, rfl, hz, h2, h4, fun t m => test_of (ht t m), fun a m => act_of (ha a m)⟩
  · cases h
theorem rules_tpR {dsk : List Str} {rs : List PyData} (h : ∀ e ∈ rs, isRuleD dsk e = true) : tpD 4 (.tuple rs) := fun e m => by
  obtain ⟨ev, ts, as, rfl, _, _, _, ht, ha⟩ := rule_of (h e m)
  intro x hx
  rcases List.mem_cons.mp hx with rfl | hx
  · rfl
  · rcases List.mem_cons.mp hx with rfl | hx
    · exact fun t m => (ht t m).tp
    · rw [List.mem_singleton.mp hx]
      exact fun t m => (ha t m).tp
theorem rulesAt_len (ev : Str) : ∀ (rs : List PyData) (i : Nat), (rulesAt ev i rs).length ≤ rs.length
  | [], _ => Nat.zero_le _
  | r :: rs, i => by
    have := rulesAt_len ev rs (i + 1)
    unfold rulesAt
    split
    · rename_i h; cases h
    · rename_i h
      injection h with h1 h2
      subst h2
      split
      · simp only [List.length_cons]; omega
      · simp only [List.length_cons]; omega
    · rename_i h
      injection h with h1 h2
      subst h2
      simp only [List.length_cons]; omega
theorem tryT_ac (e : Ef) : ∀ rs : List Ru, (tryT e rs).acted.length ≤ e.acted.length + rs.length := by
  intro rs
  induction rs generalizing e with
  | nil => simp [tryT]
  | cons r rs ih =>
    obtain ⟨i, ts, as⟩ := r
    unfold tryT
    split
    · split
      · rw [carryT_ac]
        simp only [List.length_append, List.length_cons, List.length_nil]
        omega
      · have := ih (carryT { e with acted := e.acted ++ [i] } as).1
        rw [carryT_ac] at this
        simp only [List.length_append, List.length_cons, List.length_nil] at this ⊢
        omega
    · have := ih e
      simp only [List.length_cons]
      omega
theorem tryT_evl (e : Ef) : ∀ rs : List Ru, (∀ r ∈ rs, r.2.2.length ≤ 4) → (tryT e rs).events.length ≤ e.events.length + 4 * rs.length := by
  intro rs
  induction rs generalizing e with
  | nil => simp [tryT]
  | cons r rs ih =>
    intro h
    obtain ⟨i, ts, as⟩ := r
    have h1 : as.length ≤ 4 := h _ List.mem_cons_self
    have c := carryT_ev { e with acted := e.acted ++ [i] } as
    unfold tryT
    split
    · split
      · simp only [List.length_cons] at c ⊢
        omega
      · have := ih (carryT { e with acted := e.acted ++ [i] } as).1 fun r m => h r (List.mem_cons_of_mem _ m)
        simp only [List.length_cons] at c ⊢
        omega
    · have := ih e fun r m => h r (List.mem_cons_of_mem _ m)
      simp only [List.length_cons]
      omega
theorem actT_evs (e : Ef) (a : PyData) (h : ∀ z ∈ e.events, z ∈ eventsS) : ∀ z ∈ (actT e a).events, z ∈ eventsS := by
  have add : ∀ y ∈ eventsS, ∀ z ∈ e.events ++ [y], z ∈ eventsS := fun y hy z m => by
    rcases List.mem_append.mp m with m | m
    · exact h z m
    · rw [List.mem_singleton.mp m]; exact hy
  unfold actT
  split
  · split
    · unfold setS
      split
      · exact h
      · exact add _ (by decide +kernel)
    · unfold moveS
      split
      · exact h
      · exact add _ (by decide +kernel)
  · exact h
  · exact add _ (by decide +kernel)
theorem carryT_evs (e : Ef) : ∀ as : List PyData, (∀ z ∈ e.events, z ∈ eventsS) → ∀ z ∈ (carryT e as).1.events, z ∈ eventsS := by
  intro as
  induction as generalizing e with
  | nil => exact fun h => h
  | cons a r ih =>
    intro h
    unfold carryT
    split
    · exact h
    · exact ih _ (actT_evs e a h)
theorem tryT_evs (e : Ef) : ∀ rs : List Ru, (∀ z ∈ e.events, z ∈ eventsS) → ∀ z ∈ (tryT e rs).events, z ∈ eventsS := by
  intro rs
  induction rs generalizing e with
  | nil => exact fun h => h
  | cons r rs ih =>
    intro h
    obtain ⟨i, ts, as⟩ := r
    have c : ∀ z ∈ (carryT { e with acted := e.acted ++ [i] } as).1.events, z ∈ eventsS := carryT_evs _ as h
    unfold tryT
    split
    · split
      · exact c
      · exact ih _ c
    · exact ih _ h
theorem rulesAt_short {dsk : List Str} (ev : Str) : ∀ (rs : List PyData) (i : Nat), (∀ e ∈ rs, isRuleD dsk e = true) → ∀ r ∈ rulesAt ev i rs, r.2.2.length ≤ 4
  | [], _, _ => fun _ m => nomatch m
  | d :: rs, i, h => by
    have ih := rulesAt_short ev rs (i + 1) fun e m => h e (List.mem_cons_of_mem _ m)
    obtain ⟨z, ts, as, rfl, _, _, l, _⟩ := rule_of (h _ List.mem_cons_self)
    intro r m
    have e : rulesAt ev i (.tuple [.str z, .tuple ts, .tuple as] :: rs) = if z = ev then ((i : Int), ts, as) :: rulesAt ev (i + 1) rs else rulesAt ev (i + 1) rs := rfl
    rw [e] at m
    split at m
    · rcases List.mem_cons.mp m with rfl | m
      · exact l
      · exact ih r m
    · exact ih r m
theorem effT_ok {dsk : List Str} {rs : List PyData} (ev : Str) (t : Tk) (h : ∀ e ∈ rs, isRuleD dsk e = true) (l : rs.length ≤ 8) : (effT rs ev t).acted.length ≤ 8 ∧ (effT rs ev t).events.length ≤ 32 ∧ ∀ z ∈ (effT rs ev t).events, z ∈ eventsS := by
  have a := rulesAt_len ev rs 0
  have b := tryT_ac (efNew t) (rulesAt ev 0 rs)
  have c := tryT_evl (efNew t) (rulesAt ev 0 rs) (rulesAt_short ev rs 0 h)
  simp only [efNew, List.length_nil] at b c
  refine ⟨by unfold effT; simp only [efNew]; omega, by unfold effT; simp only [efNew]; omega, tryT_evs _ _ fun z m => nomatch m⟩
theorem queueT_nil (ef : Str → Tk → Ef) (k : Nat) (t : Tn) : queueT ef k [] t = ([], t) := by cases k <;> rfl
theorem rulesAt_cons (ev z : Str) (ts as rs : List PyData) (i : Nat) : rulesAt ev i (.tuple [.str z, .tuple ts, .tuple as] :: rs) = (if z = ev then [((i : Int), ts, as)] else []) ++ rulesAt ev (i + 1) rs := by
  show (if z = ev then ((i : Int), ts, as) :: rulesAt ev (i + 1) rs else rulesAt ev (i + 1) rs) = _
  split <;> rfl
theorem rulesAt_snoc {dsk : List Str} (ev : Str) (d : PyData) : ∀ (rs : List PyData) (i : Nat), (∀ e ∈ rs, isRuleD dsk e = true) → rulesAt ev i (rs ++ [d]) = rulesAt ev i rs ++ rulesAt ev (i + rs.length) [d]
  | [], i, _ => by simp [rulesAt]
  | r :: rs, i, h => by
    have ih := rulesAt_snoc ev d rs (i + 1) fun e m => h e (List.mem_cons_of_mem _ m)
    obtain ⟨z, ts, as, rfl, _⟩ := rule_of (h _ List.mem_cons_self)
    have e : i + 1 + rs.length = i + (PyData.tuple [.str z, .tuple ts, .tuple as] :: rs).length := by simp only [List.length_cons]; omega
    rw [e] at ih
    rw [List.cons_append, rulesAt_cons, rulesAt_cons, ih, List.append_assoc]
theorem rulesAt_one (ev z : Str) (ts as : List PyData) (i : Nat) : rulesAt ev i [.tuple [.str z, .tuple ts, .tuple as]] = if z = ev then [((i : Int), ts, as)] else [] := by
  rw [rulesAt_cons]
  show _ ++ [] = _
  rw [List.append_nil]
/-- a loop over enumerate of a tuple, the tuple come -/
def ForEn (K : PySem.W.Frag) (g : TG) (tb : TS) (D : Ends) (σ : L2.St) (vs : List V) (H : Hp) : Prop := iEnumT K (fun _ H Q => Q vs H) σ H fun J H1 => ∃ W : Nat → Nat → L2.St → Hp → Prop, (∃ m, W 0 m σ H1) ∧ ∀ i m σ H, W i m σ H →
  (J.stop i H ∧ D.nx σ H) ∨ (J.go i H ∧ ∃ N : L2.St → Hp → Prop, (∀ σ' H', N σ' H' → ∃ m', m' < m ∧ W (i + 1) m' σ' H') ∧ ∀ x H', J.yld i H x H' → g x σ H' fun σ2 H2 => tb { D with nx := N, ct := N, bk := D.nx } σ2 H2)
theorem for_en {K : PySem.W.Frag} {ta : TA} {g : TG} {tb : TS} {D : Ends} {σ : L2.St} {H : Hp} (h : ta σ H (ForEn K g tb D σ)) : tFor (fun σ H R => iEnum K ta σ H R ∨ iEnumT K ta σ H R) g tb D σ H := .inr h
theorem forEnx {K : PySem.W.Frag} {g : TG} {tb : TS} {D : Ends} {σ : L2.St} {H : Hp} {a : Addr} {xs : List V} (hs : SqT K H a xs) (Pv : Nat → L2.St → Hp → Prop) (h0 : Pv 0 σ H) (hG : ∀ i σ H, i ≤ xs.length → Pv i σ H → SqT K H a xs)
    (step : ∀ i x σ H T, xs[i]? = some x → Pv i σ H → H T = none → g (.ref T) σ (upd H T (.tup [.int (i : Nat), x])) fun σ2 H2 => tb { D with nx := Pv (i + 1), ct := Pv (i + 1), bk := D.nx } σ2 H2) (hd : ∀ σ H, Pv xs.length σ H → D.nx σ H) : ForEn K g tb D σ [.ref a] H :=
  ⟨a, xs, rfl, hs, for_it walkEt Pv h0 hG (fun i x σ H H' _ p y => by
    obtain ⟨T, u, v, rfl, n, rfl, e1, e2⟩ := y
    cases e1
    exact step i v σ H T e2 p n) hd⟩
/-- what stands while what stood in H, lists and objects, changes -/
def Fs (K : PySem.W.Frag) (H H1 : Hp) (v : V) (d : PyData) : Prop := ∀ (q : Addr → Prop) (H' : Hp), (∀ b, q b → H b ≠ none ∧ Soft H1 b) → Keep q H1 H' → Dp K H' v d
theorem Fs.dp {K : PySem.W.Frag} {H H1 : Hp} {v : V} {d : PyData} (h : Fs K H H1 v d) : Dp K H1 v d := h (fun _ => False) H1 (fun _ z => z.elim) fun _ _ _ e => e
theorem Fs.later {K : PySem.W.Frag} {H H1 H2 : Hp} {v : V} {d : PyData} {q0 : Addr → Prop} (h : Fs K H H1 v d) (k : Keep q0 H1 H2) (hq : ∀ b, q0 b → H b ≠ none ∧ Soft H1 b) : Fs K H H2 v d := fun q H' z k2 => by
  refine h (fun b => q0 b ∨ (q b ∧ Soft H1 b)) H' (fun b y => ?_) fun b o nb e => ?_
  · rcases y with y | ⟨y, s⟩
    · exact hq b y
    · exact ⟨(z b y).1, s⟩
  · have n0 : ¬ q0 b := fun y => nb (.inl y)
    have e2 := k b o n0 e
    refine k2 b o (fun y => nb (.inr ⟨y, ?_⟩)) e2
    have s2 := (z b y).2
    unfold Soft at s2 ⊢
    rw [e2] at s2
    rw [e]
    exact s2
theorem Fs.weak {K : PySem.W.Frag} {H0 H H1 : Hp} {v : V} {d : PyData} (h : Fs K H H1 v d) (g : ∀ b, H0 b ≠ none → H b ≠ none) : Fs K H0 H1 v d := fun q H' z k => h q H' (fun b y => ⟨g b (z b y).1, (z b y).2⟩) k
theorem Fs.same {K : PySem.W.Frag} {H H1 H2 : Hp} {v : V} {d : PyData} (h : Fs K H H1 v d) (s : Same H1 H2) : Fs K H H2 v d := h.later (q0 := fun _ => False) (fun b o _ e => s b o e) fun _ z => z.elim
def FsAll (K : PySem.W.Frag) (H H1 : Hp) (vs : List V) (ds : List PyData) : Prop := Paired (fun v d => Fs K H H1 v d) vs ds
theorem FsAll.dps {K : PySem.W.Frag} {H H1 : Hp} {vs : List V} {ds : List PyData} (h : FsAll K H H1 vs ds) (q : Addr → Prop) (H' : Hp) (z : ∀ b, q b → H b ≠ none ∧ Soft H1 b) (k : Keep q H1 H') : DpAll K H' vs ds := by
  induction h with
  | nil => exact .nil
  | cons h _ ih => exact .cons (h q H' z k) ih
theorem soft_no {H : Hp} {b : Addr} {xs : List V} (e : H b = some (.tup xs)) : ¬ Soft H b := fun z => by
  rcases z with h | ⟨_, h⟩ | ⟨_, _, _, h⟩ | ⟨_, h⟩ <;> (rw [e] at h; cases h)
theorem fs_tup {K : PySem.W.Frag} {H H1 : Hp} {p : Addr} {vs : List V} {ds : List PyData} (e : H1 p = some (.tup vs)) (h : FsAll K H H1 vs ds) : Fs K H H1 (.ref p) (.tuple ds) := fun q H' z k =>
  .tup (.inl (.inl (k _ _ (fun y => soft_no e (z p y).2) e))) (h.dps q H' z k)
theorem fs_lst {K : PySem.W.Frag} {H H1 : Hp} {p : Addr} {vs : List V} {ds : List PyData} (n : H p = none) (e : H1 p = some (.lst vs)) (h : FsAll K H H1 vs ds) : Fs K H H1 (.ref p) (.list ds) := fun q H' z k =>
  .lst (.inl (.inl (k _ _ (fun y => (z p y).1 n) e))) (h.dps q H' z k)
theorem fs_str {K : PySem.W.Frag} {H H1 : Hp} (z : Str) : Fs K H H1 (.str z) (.str z) := fun _ _ _ _ => .str _
theorem fs_int {K : PySem.W.Frag} {H H1 : Hp} (z : Int) : Fs K H H1 (.int z) (.int z) := fun _ _ _ _ => .int _
theorem fs_bl {K : PySem.W.Frag} {H H1 : Hp} (z : Bool) : Fs K H H1 (.bl z) (.bool z) := fun _ _ _ _ => .bl _
theorem fs_ints {K : PySem.W.Frag} {H H1 : Hp} : ∀ xs : List Int, FsAll K H H1 (xs.map V.int) (xs.map PyData.int)
  | [] => .nil
  | _ :: r => .cons (fs_int _) (fs_ints r)
/-- a report that was laid anew: its list is a new one -/
def RepN (H H1 : Hp) (v : V) (t : Tn) : Prop := ∃ p l b, v = .ref p ∧ H1 p = some (.tup [.ref l, .int t.sent, .ref b, .bl t.endless]) ∧ H l = none ∧ H1 l = some (.lst (t.acted.map V.int)) ∧ H1 b = some (.tup [.str t.behind.status, .str t.behind.desk, .bl t.behind.answered, .int t.behind.days, .bl t.behind.marked])
theorem RepN.weak {H0 H H1 : Hp} {v : V} {t : Tn} (h : RepN H H1 v t) (g : ∀ b, H0 b ≠ none → H b ≠ none) : RepN H0 H1 v t := by
  obtain ⟨p, l, b, rfl, e1, n, e2, e3⟩ := h
  refine ⟨p, l, b, rfl, e1, ?_, e2, e3⟩
  cases e : H0 l with
  | none => rfl
  | some o => exact absurd n (g l (by rw [e]; exact nofun))
theorem RepN.later {H H1 H2 : Hp} {v : V} {t : Tn} {q0 : Addr → Prop} (h : RepN H H1 v t) (k : Keep q0 H1 H2) (hq : ∀ b, q0 b → H b ≠ none ∧ Soft H1 b) : RepN H H2 v t := by
  obtain ⟨p, l, b, rfl, e1, n, e2, e3⟩ := h
  exact ⟨p, l, b, rfl, k _ _ (fun y => soft_no e1 (hq _ y).2) e1, n, k _ _ (fun y => (hq _ y).1 n) e2, k _ _ (fun y => soft_no e3 (hq _ y).2) e3⟩
theorem RepN.same {H H1 H2 : Hp} {v : V} {t : Tn} (h : RepN H H1 v t) (s : Same H1 H2) : RepN H H2 v t := h.later (q0 := fun _ => False) (fun b o _ e => s b o e) fun _ z => z.elim
theorem RepN.fs {K : PySem.W.Frag} {H H1 : Hp} {v : V} {t : Tn} (h : RepN H H1 v t) : Fs K H H1 v (reportD t) := by
  obtain ⟨p, l, b, rfl, e1, n, e2, e3⟩ := h
  exact fs_tup e1 (.cons (fs_lst n e2 (fs_ints _)) (.cons (fs_int _) (.cons (fs_tup e3 (.cons (fs_str _) (.cons (fs_str _) (.cons (fs_bl _) (.cons (fs_int _) (.cons (fs_bl _) .nil)))))) (.cons (fs_bl _) .nil))))
/-- what goes wrong in the turns, from an index on -/
def faultsOf : Nat → List Tn → List (Str × Nat)
  | _, [] => []
  | i, t :: r => t.kinds.map (fun k => (k, i)) ++ faultsOf (i + 1) r
def faultD (p : Str × Nat) : PyData := .tuple [.str p.1, .int (p.2 : Nat)]
/-- a loop over enumerate of a list, the list come -/
def ForEl (K : PySem.W.Frag) (g : TG) (tb : TS) (D : Ends) (σ : L2.St) (vs : List V) (H : Hp) : Prop := iEnum K (fun _ H Q => Q vs H) σ H fun J H1 => ∃ W : Nat → Nat → L2.St → Hp → Prop, (∃ m, W 0 m σ H1) ∧ ∀ i m σ H, W i m σ H →
  (J.stop i H ∧ D.nx σ H) ∨ (J.go i H ∧ ∃ N : L2.St → Hp → Prop, (∀ σ' H', N σ' H' → ∃ m', m' < m ∧ W (i + 1) m' σ' H') ∧ ∀ x H', J.yld i H x H' → g x σ H' fun σ2 H2 => tb { D with nx := N, ct := N, bk := D.nx } σ2 H2)
theorem for_el {K : PySem.W.Frag} {ta : TA} {g : TG} {tb : TS} {D : Ends} {σ : L2.St} {H : Hp} (h : ta σ H (ForEl K g tb D σ)) : tFor (fun σ H R => iEnum K ta σ H R ∨ iEnumT K ta σ H R) g tb D σ H := .inl h
theorem forElx {K : PySem.W.Frag} {g : TG} {tb : TS} {D : Ends} {σ : L2.St} {H : Hp} {a : Addr} {xs : List V} (hs : SqL K H a xs) (Pv : Nat → L2.St → Hp → Prop) (h0 : Pv 0 σ H) (hG : ∀ i σ H, i ≤ xs.length → Pv i σ H → SqL K H a xs)
    (step : ∀ i x σ H T, xs[i]? = some x → Pv i σ H → H T = none → g (.ref T) σ (upd H T (.tup [.int (i : Nat), x])) fun σ2 H2 => tb { D with nx := Pv (i + 1), ct := Pv (i + 1), bk := D.nx } σ2 H2) (hd : ∀ σ H, Pv xs.length σ H → D.nx σ H) : ForEl K g tb D σ [.ref a] H :=
  ⟨a, xs, rfl, hs, for_it walk_enum Pv h0 hG (fun i x σ H H' _ p y => by
    obtain ⟨T, u, v, rfl, n, rfl, e1, e2⟩ := y
    cases e1
    exact step i v σ H T e2 p n) hd⟩
end Ld

set_option Elab.async false
set_option linter.all false
set_option maxRecDepth 100000
set_option maxHeartbeats 4000000
/-! Turn: one deed at a ticket. -/
namespace Ld
open PySem PySem.Spec PyProof.Rows L2
local macro_rules | `(tactic| walk_at "rd") => `(tactic| try simp only [tSeq, tNext, tRet, tRetN, tIfS, tTest, tB, tAnd, tOr, tNot, tAndV, tOrV, tNotV, tOp, tUn, tC, tVar, tCons, tNil, tCall, tCB, tAsg, tDrop, tChain, tIf, tYes, tBreak, tCont, tNever, tFld, sFld, sFldAug, tMeth, tMake, tRaiseF, tMkF, tM1, tOwn2S, tOwnIxS, tXf, tRevL, tMethS, tTup, tLst, tSl, tPart, tNoPart, tPar, tBM, tBM0, tLenSetT, tAug, gName, gTup, gCons, gNil, gStar2, gFld, gSub, rI0, rI, rU, rIxU, rIxS, rIn, rInU, rAddU, rSlU, rLenU, rTupU, rListU, rRep, rEqU_ss, rEqU_ii, rEqU_bb, rEqU_r, rNeU_ss, rNeU_ii, rNeU_bb, rNeU_r, cxOf, L2.start, wipe, List.map_cons, List.map_nil, List.length_cons, List.length_nil, List.replicate, List.cons_append, List.nil_append, List.append_nil, Nat.reduceSub, Nat.reduceAdd, List.getElem?_cons_zero, List.getElem?_cons_succ, List.set_cons_zero, List.set_cons_succ, Option.some.injEq, exists_eq_left', exists_eq_left, exists_eq, exists_and_left, V.bl.injEq, V.int.injEq, V.str.injEq, V.ref.injEq, V.ty.injEq, reduceCtorEq, false_and, and_false, exists_false, false_or, or_false, true_and, and_true, if_true, if_false, Bool.false_eq_true, ite_true, ite_false, reduceIte, decide_true, decide_false, Bool.not_true, Bool.not_false, Bool.not_eq_true, Bool.true_and, Bool.false_and, Bool.and_true, Bool.and_false, List.cons.injEq, and_assoc])
local macro_rules | `(tactic| walk_at "rn") => `(tactic| try simp only [tSeq, tNext, tRet, tRetN, tIfS, tTest, tB, tAnd, tOr, tNot, tAndV, tOrV, tNotV, tOp, tUn, tC, tVar, tCons, tNil, tCall, tCB, tAsg, tDrop, tChain, tIf, tYes, tBreak, tCont, tNever, tFld, sFld, sFldAug, tMeth, tMake, tRaiseF, tMkF, tM1, tOwn2S, tOwnIxS, tXf, tRevL, tMethS, tCallS, tMethK1, tDNewK, tRevT, Ends.cut, tDGet, rNotN, tNGet, sNPut, tNNew, tTup, tLst, tSl, tPart, tNoPart, tPar, tBM, tBM0, tLenSetT, tAug, gName, gTup, gCons, gNil, gStar2, gFld, gSub, rI0, rI, rU, rAddU_ii, tFor_rng, tLc_rng, rRep, rEqU_ss, rEqU_ii, rEqU_bb, rEqU_r, rNeU_ss, rNeU_ii, rNeU_bb, rNeU_r, cxOf, L2.start, wipe, List.map_cons, List.map_nil, List.length_cons, List.length_nil, List.replicate, List.cons_append, List.nil_append, List.append_nil, Nat.reduceSub, Nat.reduceAdd, List.getElem?_cons_zero, List.getElem?_cons_succ, List.set_cons_zero, List.set_cons_succ, Option.some.injEq, exists_eq_left', exists_eq_left, exists_eq, exists_and_left, V.bl.injEq, V.int.injEq, V.str.injEq, V.ref.injEq, V.ty.injEq, reduceCtorEq, false_and, and_false, exists_false, false_or, or_false, true_and, and_true, if_true, if_false, Bool.false_eq_true, ite_true, ite_false, reduceIte, decide_true, decide_false, Bool.not_true, Bool.not_false, Bool.not_eq_true, Bool.true_and, Bool.false_and, Bool.and_true, Bool.and_false, List.cons.injEq, and_assoc])
local macro_rules | `(tactic| walk_at "lay") => `(tactic| (apply lay_new; intro l h qq s n e; rw [← qq]; clear qq))
section
variable {P : Program} {w : World} {K : PySem.W.Frag} {mg : Str → Option Value} {base : Heap} {Z : Ad}
def tnFields (t : Tn) (vb : V) (la lk : Addr) : List (Str × V) := [("event", evV t.event), ("behind", vb), ("acted", V.ref la), ("sent", V.int t.sent), ("endless", V.bl t.endless), ("closed_by_rule", V.bl t.closed), ("sent_twice", V.bl t.twice), ("kinds", V.ref lk)]
def tnF (xs : List (Str × V)) : List (Str × V) := xs
structure TnAt (C : Addr) (H : Hp) (a dx la lk : Addr) (t : Tn) : Prop where
  ins : ∃ vb, H a = some (.ins C dx (tnFields t vb la lk)) ∧ TkAt H vb t.behind
  ac : H la = some (.lst (t.acted.map V.int))
  kd : H lk = some (.lst (t.kinds.map V.str))
  ne : la ≠ lk
def spTn (C : Addr) : Sp := fun vs H Q _ => ∃ x dx e v t, vs = [.ref x, evV e, v] ∧ H x = some (.ins C dx []) ∧ TkAt H v t ∧ ∀ H' la lk, Keep (fun b => b = x) H H' → H la = none → H lk = none → TnAt C H' x dx la lk (tnNew e t) → Q .non H'
theorem mk_Turn (T : TX P K mg Z) : MakeOk P w K mg base Z.Turn "Turn" ["self", "event", "ticket"] 1 (spTn Z.Turn) := by
  refine T.in_Turn.ok sc_Turn_init (by rintro _ _ _ _ ⟨_, _, _, _, _, rfl, _⟩; rfl) fun f cdv A outer s H vs Q E hr h => ?_
  obtain ⟨x, dx, e, v, t, rfl, hx, ⟨a, rfl, ha⟩, q⟩ := h
  refine ⟨_, (pss_cons (ps_fld (pv 0) (pv 1) rfl) (pss_cons (ps_fld (pv 0) (pv 2) rfl) (pss_cons (ps_fld (pv 0) (pe_lst pa_nil) rfl) (pss_cons (ps_fld (pv 0) pe_int rfl) (pss_cons (ps_fld (pv 0) pe_bl rfl) (pss_cons (ps_fld (pv 0) pe_bl rfl) (pss_cons (ps_fld (pv 0) pe_bl rfl) (pss_one (ps_fld (pv 0) (pe_lst pa_nil) rfl))))))))), ?_⟩
  walk_at "rn"
  refine ⟨_, _, _, hx, T.cl_Turn, T.na_Turn_event, by simp, ?_⟩
  refine ⟨_, _, tnF [("event", evV e)], upd_same, T.cl_Turn, T.na_Turn_behind, by simp [tnF], by decide +kernel, ?_⟩
  rw [upd_upd]
  walk_at "lay"
  rename_i la H1 s1 n1 e1
  have f1 := s1 _ _ (upd_same (H := H) (a := x))
  have nx : la ≠ x := fun c => by rw [c, upd_same] at n1; cases n1
  have n1' : H la = none := by rw [upd_ne nx] at n1; exact n1
  refine ⟨_, _, tnF [("event", evV e), ("behind", V.ref a)], f1, T.cl_Turn, T.na_Turn_acted, by simp [tnF], ?_⟩
  refine ⟨_, _, tnF [("event", evV e), ("behind", V.ref a), ("acted", V.ref la)], upd_same, T.cl_Turn, T.na_Turn_sent, by simp [tnF], ?_⟩
  refine ⟨_, _, tnF [("event", evV e), ("behind", V.ref a), ("acted", V.ref la), ("sent", V.int 0)], upd_same, T.cl_Turn, T.na_Turn_endless, by simp [tnF], ?_⟩
  refine ⟨_, _, tnF [("event", evV e), ("behind", V.ref a), ("acted", V.ref la), ("sent", V.int 0), ("endless", V.bl false)], upd_same, T.cl_Turn, T.na_Turn_closed_by_rule, by simp [tnF], ?_⟩
  refine ⟨_, _, tnF [("event", evV e), ("behind", V.ref a), ("acted", V.ref la), ("sent", V.int 0), ("endless", V.bl false), ("closed_by_rule", V.bl false)], upd_same, T.cl_Turn, T.na_Turn_sent_twice, by simp [tnF], by decide +kernel, ?_⟩
  rw [upd_upd, upd_upd, upd_upd, upd_upd]
  generalize eG : upd H1 x _ = H2
  have k2 : Keep (fun b => b = x) H H2 := fun b o nb e => by
    rw [← eG, upd_ne nb]
    exact s1 _ _ (by rw [upd_ne nb]; exact e)
  have g2 : H2 la = some (.lst []) := by rw [← eG, upd_ne nx]; exact e1
  have f2 : H2 x = some (.ins Z.Turn dx (tnF [("event", evV e), ("behind", V.ref a), ("acted", V.ref la), ("sent", V.int 0), ("endless", V.bl false), ("closed_by_rule", V.bl false), ("sent_twice", V.bl false)])) := by rw [← eG]; exact upd_same
  walk_at "lay"
  rename_i lk H3 s3 n3 e3
  have nax : lk ≠ x := fun c => by rw [c, f2] at n3; cases n3
  have nal : lk ≠ la := fun c => by rw [c, g2] at n3; cases n3
  have n3' : H lk = none := by
    cases e : H lk with
    | none => rfl
    | some o => rw [k2 lk o nax e] at n3; cases n3
  have nax' : a ≠ x := fun c => by rw [c, hx] at ha; cases ha
  refine ⟨_, _, _, s3 _ _ f2, T.cl_Turn, T.na_Turn_kinds, by simp [tnF], ?_⟩
  refine q _ la lk (fun b o nb e => by rw [upd_ne nb]; exact s3 _ _ (k2 b o nb e)) n1' n3' ⟨⟨_, upd_same, a, rfl, ?_⟩, ?_, ?_, Ne.symm nal⟩
  · rw [upd_ne nax']; exact s3 _ _ (k2 _ _ nax' ha)
  · rw [upd_ne nx]; exact s3 _ _ g2
  · rw [upd_ne nax]; exact e3
theorem TnAt.same {C : Addr} {H H' : Hp} {a dx la lk : Addr} {t : Tn} (x : TnAt C H a dx la lk t) (s : Same H H') : TnAt C H' a dx la lk t := by
  obtain ⟨⟨vb, h1, b, rfl, h2⟩, h3, h4, h5⟩ := x
  exact ⟨⟨_, s _ _ h1, b, rfl, s _ _ h2⟩, s _ _ h3, s _ _ h4, h5⟩
theorem dps_intsP {H : Hp} : ∀ xs : List Int, DpAll K H (xs.map V.int) (xs.map PyData.int)
  | [] => .nil
  | _ :: r => .cons (.int _) (dps_intsP r)
theorem put_new {H H' : Hp} {l : Addr} {o : HO} (s : Same H H') (n : H l = none) : Same H (upd H' l o) := fun b o e => by
  rw [upd_ne (ne_of_none e n)]
  exact s b o e
def spRep (K : PySem.W.Frag) (C : Addr) : Sp := fun vs H Q _ => ∃ a dx la lk t, vs = [.ref a] ∧ TnAt C H a dx la lk t ∧ ∀ v H', Same H H' → RepN H H' v t → Q v H'
theorem m_Turn_report (T : TX P K mg Z) : MethOk P w K mg base Z.Turn "report" ["self"] 1 (spRep K Z.Turn) := by
  refine T.mt_Turn_report.ok T.cl_Turn sc_Turn_report (by rintro _ _ _ _ ⟨_, _, _, _, _, rfl, _⟩; rfl) fun f cdv A outer s H vs Q E hr h => ?_
  obtain ⟨a, dx, la, lk, t, rfl, x, q⟩ := h
  refine ⟨_, (pss_one (ps_ret (pe_tup (pa_cons (pe_callTy (kList (K := K)) (by rfl) T.b_list (by decide +kernel) (pa_cons (kFld (K := K) (pv 0) rfl) pa_nil)) (pa_cons (kFld (K := K) (pv 0) rfl) (pa_cons (kFld (K := K) (pv 0) rfl) (pa_cons (kFld (K := K) (pv 0) rfl) pa_nil))))))), ?_⟩
  walk_at "rn"
  obtain ⟨⟨vb, xi, b, rfl, hb⟩, xa, xk, xn⟩ := id x
  refine ⟨_, _, _, xi, T.cl_Turn, T.na_Turn_acted, _, rfl, list_l (.inl (.inl xa)) ?_⟩
  walk_at "lay"
  rename_i l H1 s1 n1 e1
  refine ⟨_, _, _, s1 _ _ xi, T.cl_Turn, T.na_Turn_sent, _, rfl, _, _, _, s1 _ _ xi, T.cl_Turn, T.na_Turn_behind, _, rfl, _, _, _, s1 _ _ xi, T.cl_Turn, T.na_Turn_endless, _, rfl, by decide +kernel, ?_⟩
  walk_at "lay"
  rename_i p H2 s2 n2 e2
  exact q _ H2 (s1.trans s2) ⟨p, l, b, rfl, e2, n1, s2 _ _ e1, (s1.trans s2) _ _ hb⟩
theorem app_str {H : Hp} {Q : VK} {l : Addr} {zs : List Str} {z : Str} (e : H l = some (.lst (zs.map V.str))) (n : zs.length < 4096) (q : Q .non (upd H l (.lst ((zs ++ [z]).map V.str)))) : tyV K "list" (.ref l) H ∧ rAppend (.ref l) [.str z] H Q := by
  rw [List.map_append] at q
  exact ⟨.inl ⟨rfl, _, .inl (.inl e)⟩, l, _, _, rfl, rfl, e, by rw [List.length_map]; exact sz_of n, q⟩
theorem oneIf_len (b : Bool) (z : Str) : (oneIf b z).length ≤ 1 := by
  unfold oneIf
  split <;> simp
theorem oneIf_t {b : Bool} {z : Str} (h : b = true) : oneIf b z = [z] := if_pos h
theorem oneIf_f {b : Bool} {z : Str} (h : ¬ b = true) : oneIf b z = [] := if_neg h
theorem eq_ev {H : Hp} {Q : VK} {e : Option Str} {z : Str} (q : Q (.bl (decide (e = some z))) H) : rEqU K (evV e) (.str z) H Q := by
  cases e with
  | none =>
    have h : scal .non (.str z) = true := rfl
    show rEqU K .non (.str z) H Q
    unfold rEqU
    rw [if_pos h, decide_eq_false (by intro c; cases c)]
    rw [decide_eq_false (by intro c; cases c)] at q
    exact q
  | some y =>
    show rEqU K (.str y) (.str z) H Q
    rw [rEqU_ss]
    rw [show decide (y = z) = decide (some y = some z) by simp]
    exact q
def spKinds (C : Addr) : Sp := fun vs H Q _ => ∃ a dx la lk t, vs = [.ref a] ∧ TnAt C H a dx la lk t ∧ ∀ l H', Same H H' → H l = none → H' l = some (.lst ((kindsT t).map V.str)) → Q (.ref l) H'
theorem m_Turn_fault_kinds (T : TX P K mg Z) : MethOk P w K mg base Z.Turn "fault_kinds" ["self"] 1 (spKinds Z.Turn) := by
  refine T.mt_Turn_fault_kinds.ok T.cl_Turn sc_Turn_fault_kinds (by rintro _ _ _ _ ⟨_, _, _, _, _, rfl, _⟩; rfl) fun f cdv A outer s H vs Q E hr h => ?_
  obtain ⟨a, dx, la, lk, t, rfl, x, q⟩ := h
  obtain ⟨t5, h5, m5⟩ : ∃ u, PSs (cxOf (L2.CX P w) P w K mg base ["self", "status", "_", "answered", "kinds"] "Turn.fault_kinds" (defScope s_Turn_fault_kinds) f cdv A outer s H E) ((defBody s_Turn_fault_kinds).drop 5) u ∧ ∀ (l : Addr) (H' : Hp) (o1 : Option V), Same H H' → H l = none → H' l = some (.lst ((oneIf t.endless "endless" ++ oneIf (t.closed && (decide (t.behind.status = "closed") && !t.behind.answered)) "unanswered" ++ oneIf t.twice "twice").map V.str)) →
      u { nx := fun _ H' => Q .non H', rt := Q } [some (.ref a), some (.str t.behind.status), o1, some (.bl t.behind.answered), some (.ref l)] H' := by
    refine ⟨_, (pss_cons (ps_if (PW.pt (pw_and (pt_cmpR (kEq (K := K) hr.units) (kFld (K := K) (pv 0) rfl) pe_str (nomark _)) (pw_and1 (pt_cmpR (kEq (K := K) hr.units) (pe_callB (kLen (K := K)) (by rfl) T.b_len PySem.boot_len (pa_cons (kFld (K := K) (pv 0) rfl) pa_nil)) pe_int (nomark _))))) (pss_one (ps_expr (kBm (K := K) PySem.F.plainAttrs_list PySem.F.slot_list_append PySem.F.type_list_append mt_append (pv 4) (pa_cons pe_str pa_nil)))) pss_nil) (pss_one (ps_ret (pv 4)))), ?_⟩
    intro l H1 o1 s1 nl el
    have x1 := x.same s1
    obtain ⟨⟨vb, xi, b, rfl, hb⟩, xa, xk, xn⟩ := id x1
    have s2 : ∀ o, Same H (upd H1 l o) := fun o => put_new s1 nl
    walk_at "rn"
    refine ⟨_, _, _, xi, T.cl_Turn, T.na_Turn_event, _, rfl, eq_ev ⟨_, rfl, ?_⟩⟩
    by_cases c : t.event = some ("letter" : Str)
    · rw [if_pos (decide_eq_true c)]
      refine ⟨_, _, _, xi, T.cl_Turn, T.na_Turn_acted, _, rfl, len_l (.inl (.inl xa)) ?_⟩
      walk_at "rn"
      by_cases c2 : t.acted.length = 0
      · rw [if_pos (by simp [c2])]
        refine app_str el (by
          have := oneIf_len t.endless "endless"
          have := oneIf_len (t.closed && (decide (t.behind.status = "closed") && !t.behind.answered)) "unanswered"
          have := oneIf_len t.twice "twice"
          simp only [List.length_append]
          omega) ?_
        refine q l _ (s2 _) nl ?_
        rw [upd_same]
        unfold kindsT
        rw [oneIf_t (z := "untouched") (by rw [decide_eq_true c, decide_eq_true c2]; rfl)]
      · rw [if_neg (by simpa using c2)]
        refine q l _ s1 nl ?_
        rw [el]
        unfold kindsT
        rw [oneIf_f (z := "untouched") (by rw [decide_eq_false c2, Bool.and_false]; exact Bool.false_ne_true), List.append_nil]
    · rw [if_neg (by rw [decide_eq_false c]; exact Bool.false_ne_true)]
      refine q l _ s1 nl ?_
      rw [el]
      unfold kindsT
      rw [oneIf_f (z := "untouched") (by rw [decide_eq_false c, Bool.false_and]; exact Bool.false_ne_true), List.append_nil]
  obtain ⟨t4, h4, m4⟩ : ∃ u, PSs (cxOf (L2.CX P w) P w K mg base ["self", "status", "_", "answered", "kinds"] "Turn.fault_kinds" (defScope s_Turn_fault_kinds) f cdv A outer s H E) ((defBody s_Turn_fault_kinds).drop 4) u ∧ ∀ (l : Addr) (H' : Hp) (o1 : Option V), Same H H' → H l = none → H' l = some (.lst ((oneIf t.endless "endless" ++ oneIf (t.closed && (decide (t.behind.status = "closed") && !t.behind.answered)) "unanswered").map V.str)) →
      u { nx := fun _ H' => Q .non H', rt := Q } [some (.ref a), some (.str t.behind.status), o1, some (.bl t.behind.answered), some (.ref l)] H' := by
    refine ⟨_, (pss_cons (ps_if (pt_val (kFld (K := K) (pv 0) rfl)) (pss_one (ps_expr (kBm (K := K) PySem.F.plainAttrs_list PySem.F.slot_list_append PySem.F.type_list_append mt_append (pv 4) (pa_cons pe_str pa_nil)))) pss_nil) h5), ?_⟩
    intro l H1 o1 s1 nl el
    have x1 := x.same s1
    obtain ⟨⟨vb, xi, b, rfl, hb⟩, xa, xk, xn⟩ := id x1
    have s2 : ∀ o, Same H (upd H1 l o) := fun o => put_new s1 nl
    walk_at "rn"
    refine ⟨_, _, _, xi, T.cl_Turn, T.na_Turn_sent_twice, _, rfl, _, rfl, ?_⟩
    by_cases c : t.twice = true
    · rw [if_pos c]
      refine app_str el (by have := oneIf_len t.endless "endless"; have := oneIf_len (t.closed && (decide (t.behind.status = "closed") && !t.behind.answered)) "unanswered"; simp only [List.length_append]; omega) ?_
      exact m5 l _ _ (s2 _) nl (by rw [upd_same, oneIf_t c])
    · rw [if_neg c]
      exact m5 l _ _ s1 nl (by rw [el, oneIf_f c, List.append_nil])
  obtain ⟨t3, h3, m3⟩ : ∃ u, PSs (cxOf (L2.CX P w) P w K mg base ["self", "status", "_", "answered", "kinds"] "Turn.fault_kinds" (defScope s_Turn_fault_kinds) f cdv A outer s H E) ((defBody s_Turn_fault_kinds).drop 3) u ∧ ∀ (l : Addr) (H' : Hp) (o1 : Option V), Same H H' → H l = none → H' l = some (.lst ((oneIf t.endless "endless").map V.str)) →
      u { nx := fun _ H' => Q .non H', rt := Q } [some (.ref a), some (.str t.behind.status), o1, some (.bl t.behind.answered), some (.ref l)] H' := by
    refine ⟨_, (pss_cons (ps_if (PW.pt (pw_and (pt_val (kFld (K := K) (pv 0) rfl)) (pw_and (pt_cmpR (kEq (K := K) hr.units) (pv 1) pe_str (nomark _)) (pw_and1 (pt_not (pt_val (pv 3))))))) (pss_one (ps_expr (kBm (K := K) PySem.F.plainAttrs_list PySem.F.slot_list_append PySem.F.type_list_append mt_append (pv 4) (pa_cons pe_str pa_nil)))) pss_nil) h4), ?_⟩
    intro l H1 o1 s1 nl el
    have x1 := x.same s1
    obtain ⟨⟨vb, xi, b, rfl, hb⟩, xa, xk, xn⟩ := id x1
    have s2 : ∀ o, Same H (upd H1 l o) := fun o => put_new s1 nl
    walk_at "rn"
    refine ⟨_, _, _, xi, T.cl_Turn, T.na_Turn_closed_by_rule, _, rfl, _, rfl, ?_⟩
    by_cases c : t.closed = true
    · rw [if_pos c]
      by_cases c2 : t.behind.status = "closed"
      · rw [if_pos (decide_eq_true c2)]
        by_cases c3 : (!t.behind.answered) = true
        · rw [if_pos c3]
          refine app_str el (by have := oneIf_len t.endless "endless"; omega) ?_
          exact m4 l _ _ (s2 _) nl (by rw [upd_same, oneIf_t (z := "unanswered") (by rw [c, decide_eq_true c2, c3]; rfl)])
        · rw [if_neg c3]
          exact m4 l _ _ s1 nl (by rw [el, oneIf_f (z := "unanswered") (by simp only [Bool.and_eq_true]; exact fun z => c3 z.2.2), List.append_nil])
      · rw [if_neg (by rw [decide_eq_false c2]; exact Bool.false_ne_true)]
        exact m4 l _ _ s1 nl (by rw [el, oneIf_f (z := "unanswered") (by simp only [Bool.and_eq_true, decide_eq_true_eq]; exact fun z => c2 z.2.1), List.append_nil])
    · rw [if_neg c]
      exact m4 l _ _ s1 nl (by rw [el, oneIf_f (z := "unanswered") (by simp only [Bool.and_eq_true]; exact fun z => c z.1), List.append_nil])
  refine ⟨_, (pss_cons (ps_asg (kFld (K := K) (pv 0) rfl) (kTup (K := K) (n := 5) rfl (pgs_cons (pg_name (i := 1) sc_Turn_fault_kinds.nd rfl (by first | exact Or.inl rfl | exact Or.inr rfl)) (pgs_cons (pg_name (i := 2) sc_Turn_fault_kinds.nd rfl (by first | exact Or.inl rfl | exact Or.inr rfl)) (pgs_cons (pg_name (i := 3) sc_Turn_fault_kinds.nd rfl (by first | exact Or.inl rfl | exact Or.inr rfl)) (pgs_cons (pg_name (i := 2) sc_Turn_fault_kinds.nd rfl (by first | exact Or.inl rfl | exact Or.inr rfl)) (pgs_cons (pg_name (i := 2) sc_Turn_fault_kinds.nd rfl (by first | exact Or.inl rfl | exact Or.inr rfl)) pgs_nil))))))) (pss_cons (ps_set (i := 4) sc_Turn_fault_kinds.nd rfl (by first | exact Or.inl rfl | exact Or.inr rfl) (pe_lst pa_nil)) (pss_cons (ps_if (pt_val (kFld (K := K) (pv 0) rfl)) (pss_one (ps_expr (kBm (K := K) PySem.F.plainAttrs_list PySem.F.slot_list_append PySem.F.type_list_append mt_append (pv 4) (pa_cons pe_str pa_nil)))) pss_nil) h3))), ?_⟩
  walk_at "rn"
  obtain ⟨⟨vb, xi, b, rfl, hb⟩, xa, xk, xn⟩ := id x
  refine ⟨_, _, _, xi, T.cl_Turn, T.na_Turn_behind, _, rfl, _, rfl, _, .inl (.inl hb), rfl, _, _, rfl, _, _, rfl, _, _, rfl, _, _, rfl, _, _, rfl, rfl, by decide +kernel, ?_⟩
  walk_at "lay"
  rename_i l H1 s1 n1 e1
  refine ⟨_, _, _, s1 _ _ xi, T.cl_Turn, T.na_Turn_endless, _, rfl, _, rfl, ?_⟩
  by_cases c : t.endless = true
  · rw [if_pos c]
    refine app_str (zs := []) e1 (by simp) ?_
    exact m3 l _ _ (put_new s1 n1) n1 (by rw [upd_same, oneIf_t c]; rfl)
  · rw [if_neg c]
    exact m3 l _ _ s1 n1 (by rw [e1, oneIf_f c]; rfl)
end
end Ld

set_option Elab.async false
set_option linter.all false
set_option maxRecDepth 100000
set_option maxHeartbeats 4000000
/-! Turn takes an effect; Works: the effect of an event. -/
namespace Ld
open PySem PySem.Spec PyProof.Rows L2
local macro_rules | `(tactic| walk_at "rd") => `(tactic| try simp only [tSeq, tNext, tRet, tRetN, tIfS, tTest, tB, tAnd, tOr, tNot, tAndV, tOrV, tNotV, tOp, tUn, tC, tVar, tCons, tNil, tCall, tCB, tAsg, tDrop, tChain, tIf, tYes, tBreak, tCont, tNever, tFld, sFld, sFldAug, tMeth, tMake, tRaiseF, tMkF, tM1, tOwn2S, tOwnIxS, tXf, tRevL, tMethS, tTup, tLst, tSl, tPart, tNoPart, tPar, tBM, tBM0, tLenSetT, tAug, gName, gTup, gCons, gNil, gStar2, gFld, gSub, rI0, rI, rU, rIxU, rIxS, rIn, rInU, rAddU, rSlU, rLenU, rTupU, rListU, rRep, rEqU_ss, rEqU_ii, rEqU_bb, rEqU_r, rNeU_ss, rNeU_ii, rNeU_bb, rNeU_r, cxOf, L2.start, wipe, List.map_cons, List.map_nil, List.length_cons, List.length_nil, List.replicate, List.cons_append, List.nil_append, List.append_nil, Nat.reduceSub, Nat.reduceAdd, List.getElem?_cons_zero, List.getElem?_cons_succ, List.set_cons_zero, List.set_cons_succ, Option.some.injEq, exists_eq_left', exists_eq_left, exists_eq, exists_and_left, V.bl.injEq, V.int.injEq, V.str.injEq, V.ref.injEq, V.ty.injEq, reduceCtorEq, false_and, and_false, exists_false, false_or, or_false, true_and, and_true, if_true, if_false, Bool.false_eq_true, ite_true, ite_false, reduceIte, decide_true, decide_false, Bool.not_true, Bool.not_false, Bool.not_eq_true, Bool.true_and, Bool.false_and, Bool.and_true, Bool.and_false, List.cons.injEq, and_assoc])
local macro_rules | `(tactic| walk_at "rn") => `(tactic| try simp only [tSeq, tNext, tRet, tRetN, tIfS, tTest, tB, tAnd, tOr, tNot, tAndV, tOrV, tNotV, tOp, tUn, tC, tVar, tCons, tNil, tCall, tCB, tAsg, tDrop, tChain, tIf, tYes, tBreak, tCont, tNever, tFld, sFld, sFldAug, tMeth, tMake, tRaiseF, tMkF, tM1, tOwn2S, tOwnIxS, tXf, tRevL, tMethS, tCallS, tMethK1, tDNewK, tRevT, Ends.cut, tDGet, rNotN, tNGet, sNPut, tNNew, tTup, tLst, tSl, tPart, tNoPart, tPar, tBM, tBM0, tLenSetT, tAug, gName, gTup, gCons, gNil, gStar2, gFld, gSub, rI0, rI, rU, rAddU_ii, tFor_rng, tLc_rng, rRep, rEqU_ss, rEqU_ii, rEqU_bb, rEqU_r, rNeU_ss, rNeU_ii, rNeU_bb, rNeU_r, cxOf, L2.start, wipe, List.map_cons, List.map_nil, List.length_cons, List.length_nil, List.replicate, List.cons_append, List.nil_append, List.append_nil, Nat.reduceSub, Nat.reduceAdd, List.getElem?_cons_zero, List.getElem?_cons_succ, List.set_cons_zero, List.set_cons_succ, Option.some.injEq, exists_eq_left', exists_eq_left, exists_eq, exists_and_left, V.bl.injEq, V.int.injEq, V.str.injEq, V.ref.injEq, V.ty.injEq, reduceCtorEq, false_and, and_false, exists_false, false_or, or_false, true_and, and_true, if_true, if_false, Bool.false_eq_true, ite_true, ite_false, reduceIte, decide_true, decide_false, Bool.not_true, Bool.not_false, Bool.not_eq_true, Bool.true_and, Bool.false_and, Bool.and_true, Bool.and_false, List.cons.injEq, and_assoc])
local macro_rules | `(tactic| walk_at "lay") => `(tactic| (apply lay_new; intro l h qq s n e; rw [← qq]; clear qq))
section
variable {P : Program} {w : World} {K : PySem.W.Frag} {mg : Str → Option Value} {base : Heap} {Z : Ad}
structure TnV (C : Addr) (H : Hp) (a dx la lk : Addr) (vb : V) (t : Tn) : Prop where
  ins : H a = some (.ins C dx (tnFields t vb la lk))
  tk : TkAt H vb t.behind
  ac : H la = some (.lst (t.acted.map V.int))
  kd : H lk = some (.lst (t.kinds.map V.str))
  ne : la ≠ lk
theorem TnAt.v {C : Addr} {H : Hp} {a dx la lk : Addr} {t : Tn} (x : TnAt C H a dx la lk t) : ∃ vb, TnV C H a dx la lk vb t := by
  obtain ⟨⟨vb, h1, h2⟩, h3, h4, h5⟩ := x
  exact ⟨vb, h1, h2, h3, h4, h5⟩
theorem TnV.at_ {C : Addr} {H : Hp} {a dx la lk : Addr} {vb : V} {t : Tn} (x : TnV C H a dx la lk vb t) : TnAt C H a dx la lk t := ⟨⟨vb, x.ins, x.tk⟩, x.ac, x.kd, x.ne⟩
theorem TnV.nla {C : Addr} {H : Hp} {a dx la lk : Addr} {vb : V} {t : Tn} (x : TnV C H a dx la lk vb t) : la ≠ a := fun c => by
  have h := x.ac
  rw [c, x.ins] at h
  cases h
theorem TnV.nlk {C : Addr} {H : Hp} {a dx la lk : Addr} {vb : V} {t : Tn} (x : TnV C H a dx la lk vb t) : lk ≠ a := fun c => by
  have h := x.kd
  rw [c, x.ins] at h
  cases h
theorem TnV.same {C : Addr} {H H' : Hp} {a dx la lk : Addr} {vb : V} {t : Tn} (x : TnV C H a dx la lk vb t) (s : Same H H') : TnV C H' a dx la lk vb t := by
  obtain ⟨h1, ⟨b, rfl, h2⟩, h3, h4, h5⟩ := x
  exact ⟨s _ _ h1, ⟨b, rfl, s _ _ h2⟩, s _ _ h3, s _ _ h4, h5⟩
theorem TnV.upP {C : Addr} {H : Hp} {a dx la lk : Addr} {vb vb' v : V} {t t' : Tn} {f : Str} (x : TnV C H a dx la lk vb t) (tk : TkAt H vb' t'.behind) (h1 : t'.acted = t.acted) (h2 : t'.kinds = t.kinds) (h3 : putF f v (tnFields t vb la lk) = tnFields t' vb' la lk) : TnV C (upd H a (.ins C dx (putF f v (tnFields t vb la lk)))) a dx la lk vb' t' := by
  obtain ⟨b, rfl, hb⟩ := tk
  have nb : b ≠ a := fun c => by rw [c, x.ins] at hb; cases hb
  refine ⟨by rw [upd_same, h3], ⟨b, rfl, by rw [upd_ne nb]; exact hb⟩, by rw [upd_ne x.nla, h1]; exact x.ac, by rw [upd_ne x.nlk, h2]; exact x.kd, x.ne⟩
theorem TnV.ext {C : Addr} {H : Hp} {a dx la lk : Addr} {vb : V} {t : Tn} (x : TnV C H a dx la lk vb t) (ys : List Int) : TnV C (upd H la (.lst (t.acted.map V.int ++ ys.map V.int))) a dx la lk vb { t with acted := t.acted ++ ys } := by
  obtain ⟨b, rfl, hb⟩ := x.tk
  have nb : b ≠ la := fun c => by rw [c, x.ac] at hb; cases hb
  exact ⟨by rw [upd_ne (Ne.symm x.nla)]; exact x.ins, ⟨b, rfl, by rw [upd_ne nb]; exact hb⟩, by rw [upd_same, List.map_append], by rw [upd_ne (Ne.symm x.ne)]; exact x.kd, x.ne⟩
def spTake (C CE : Addr) : Sp := fun vs H Q _ => ∃ a dx la lk t x dxe ls le e, vs = [.ref a, .ref x] ∧ TnAt C H a dx la lk t ∧ EfAt CE H x dxe ls le e ∧ t.acted.length ≤ 100000 ∧ e.acted.length ≤ 100000 ∧
  ∀ H', Keep (fun b => b = a ∨ b = la) H H' → TnAt C H' a dx la lk (takeT t e) → Q .non H'
theorem m_Turn_take (T : TX P K mg Z) : MethOk P w K mg base Z.Turn "take" ["self", "effect"] 2 (spTake Z.Turn Z.Effect) := by
  refine T.mt_Turn_take.ok T.cl_Turn sc_Turn_take (by rintro _ _ _ _ ⟨_, _, _, _, _, _, _, _, _, _, rfl, _⟩; rfl) fun f cdv A outer s H vs Q E hr h => ?_
  obtain ⟨a, dx, la, lk, t, x, dxe, ls, le, e, rfl, tn, ef, sz1, sz2, q⟩ := h
  obtain ⟨t4, h4, m4⟩ : ∃ u, PSs (cxOf (L2.CX P w) P w K mg base ["self", "effect"] "Turn.take" (defScope s_Turn_take) f cdv A outer s H E) ((defBody s_Turn_take).drop 4) u ∧ ∀ (H1 : Hp) (v1 : V) (t1 : Tn), TnV Z.Turn H1 a dx la lk v1 t1 → H1 x = some (.ins Z.Effect dxe (efFields e ls le)) →
      (∀ H2, Keep (fun b => b = a) H1 H2 → TnV Z.Turn H2 a dx la lk v1 { t1 with twice := t1.twice || e.twice } → Q .non H2) → u { nx := fun _ H' => Q .non H', rt := Q } [some (.ref a), some (.ref x)] H1 := by
    refine ⟨_, (pss_one (ps_fld (pv 0) (pe_or (kFld (K := K) (pv 0) rfl) (pe_one (kFld (K := K) (pv 1) rfl))) rfl)), ?_⟩
    intro H1 v1 t1 y1 hx1 q1
    walk_at "rn"
    refine ⟨_, _, _, y1.ins, T.cl_Turn, T.na_Turn_sent_twice, _, rfl, _, rfl, ?_⟩
    cases c : t1.twice
    · rw [if_neg Bool.false_ne_true]
      refine ⟨_, _, _, hx1, T.cl_Effect, T.na_Effect_sent_twice, _, rfl, _, _, _, y1.ins, T.cl_Turn, T.na_Turn_sent_twice, by simp [tnFields], q1 _ (fun b o nb eb => by rw [upd_ne nb]; exact eb) (y1.upP y1.tk rfl rfl ?_)⟩
      rw [c, Bool.false_or]
      rfl
    · rw [if_pos rfl]
      refine ⟨_, _, _, y1.ins, T.cl_Turn, T.na_Turn_sent_twice, by simp [tnFields], q1 _ (fun b o nb eb => by rw [upd_ne nb]; exact eb) (y1.upP y1.tk rfl rfl ?_)⟩
      rw [c, Bool.true_or]
      rfl
  refine ⟨_, (pss_cons (ps_fld (pv 0) (pe_methD0 (m_Effect_ticket_now T) hr (pv 1) passL) rfl) (pss_cons (ps_expr (kBm (K := K) PySem.F.plainAttrs_list PySem.F.slot_list_extend PySem.F.type_list_extend mt_extend (kFld (K := K) (pv 0) rfl) (pa_cons (kFld (K := K) (pv 1) rfl) pa_nil))) (pss_cons (ps_fldaug (pv 0) (kFld (K := K) (pv 1) rfl) in_add) (pss_cons (ps_fld (pv 0) (pe_or (kFld (K := K) (pv 0) rfl) (pe_one (kFld (K := K) (pv 1) rfl))) rfl) h4)))), ?_⟩
  walk_at "rn"
  obtain ⟨vb, tn⟩ := tn.v
  have nx : x ≠ a := fun c => by
    have h := ef.ins
    rw [c, tn.ins] at h
    injection h with h
    injection h with _ _ h
    injection h with h _
    injection h with h _
    exact absurd h (by decide +kernel)
  have nxl : x ≠ la := fun c => by
    have h := ef.ins
    rw [c, tn.ac] at h
    cases h
  have nel : le ≠ a := fun c => by
    have h := ef.ac
    rw [c, tn.ins] at h
    cases h
  refine ⟨_, _, ef.ins, rfl, x, dxe, ls, le, e, rfl, ef, fun v H1 s1 hv => ?_⟩
  have tn1 := tn.same s1
  have ef1 := ef.same s1
  refine ⟨_, _, _, tn1.ins, T.cl_Turn, T.na_Turn_behind, by simp [tnFields], ?_⟩
  generalize eG2 : upd H1 a _ = H2
  have tn2 : TnV Z.Turn H2 a dx la lk v { t with behind := e.tk } := by rw [← eG2]; exact tn1.upP hv rfl rfl rfl
  have x2 : H2 x = some (.ins Z.Effect dxe (efFields e ls le)) := by rw [← eG2, upd_ne nx]; exact ef1.ins
  have a2 : H2 le = some (.lst (e.acted.map V.int)) := by rw [← eG2, upd_ne nel]; exact ef1.ac
  have k2 : Keep (fun b => b = a ∨ b = la) H H2 := fun b o nb eb => by
    rw [← eG2, upd_ne fun c => nb (.inl c)]
    exact s1 _ _ eb
  refine ⟨_, _, _, tn2.ins, T.cl_Turn, T.na_Turn_acted, _, rfl, .inl ⟨rfl, _, .inl (.inl tn2.ac)⟩, _, _, _, x2, T.cl_Effect, T.na_Effect_acted, _, rfl, ?_⟩
  refine ⟨la, le, _, _, rfl, rfl, tn2.ac, a2, by rw [List.length_map, List.length_map]; exact Nat.le_trans (Nat.add_le_add sz1 sz2) (by decide), ?_⟩
  have tn3 := tn2.ext e.acted
  generalize eG3 : upd H2 la _ = H3 at tn3 ⊢
  have x3 : H3 x = some (.ins Z.Effect dxe (efFields e ls le)) := by rw [← eG3, upd_ne nxl]; exact x2
  have k3 : Keep (fun b => b = a ∨ b = la) H H3 := fun b o nb eb => by
    rw [← eG3, upd_ne fun c => nb (.inr c)]
    exact k2 _ _ nb eb
  refine ⟨_, _, _, tn3.ins, T.cl_Turn, T.na_Turn_sent, _, rfl, _, _, _, x3, T.cl_Effect, T.na_Effect_sent, _, rfl, ?_⟩
  refine ⟨_, _, rfl, rfl, _, _, tn3.ins, by simp [tnFields], ?_⟩
  generalize eG4 : upd H3 a _ = H4
  have tn4 : TnV Z.Turn H4 a dx la lk v { t with behind := e.tk, acted := t.acted ++ e.acted, sent := t.sent + e.sent } := by rw [← eG4]; exact tn3.upP tn3.tk rfl rfl rfl
  have x4 : H4 x = some (.ins Z.Effect dxe (efFields e ls le)) := by rw [← eG4, upd_ne nx]; exact x3
  have k4 : Keep (fun b => b = a ∨ b = la) H H4 := fun b o nb eb => by
    rw [← eG4, upd_ne fun c => nb (.inl c)]
    exact k3 _ _ nb eb
  have last : ∀ H5, Keep (fun b => b = a) H4 H5 → TnV Z.Turn H5 a dx la lk v { t with behind := e.tk, acted := t.acted ++ e.acted, sent := t.sent + e.sent, closed := t.closed || e.closed } → H5 x = some (.ins Z.Effect dxe (efFields e ls le)) →
      t4 { nx := fun _ H' => Q .non H', rt := Q } [some (.ref a), some (.ref x)] H5 := fun H5 k5 y5 x5 => m4 H5 _ _ y5 x5 fun H6 k6 y6 => q H6 (fun b o nb eb => k6 _ _ (fun c => nb (.inl c)) (k5 _ _ (fun c => nb (.inl c)) (k4 _ _ nb eb))) y6.at_
  refine ⟨_, _, _, tn4.ins, T.cl_Turn, T.na_Turn_closed_by_rule, _, rfl, _, rfl, ?_⟩
  have kk : ∀ o, Keep (fun b => b = a) H4 (upd H4 a o) := fun o b o' nb eb => by rw [upd_ne nb]; exact eb
  cases c : t.closed
  · rw [if_neg Bool.false_ne_true]
    refine ⟨_, _, _, x4, T.cl_Effect, T.na_Effect_closed_by_rule, _, rfl, _, _, _, tn4.ins, T.cl_Turn, T.na_Turn_closed_by_rule, by simp [tnFields], last _ (kk _) (tn4.upP tn4.tk rfl rfl ?_) (by rw [upd_ne nx]; exact x4)⟩
    rw [c, Bool.false_or]
    rfl
  · rw [if_pos rfl]
    refine ⟨_, _, _, tn4.ins, T.cl_Turn, T.na_Turn_closed_by_rule, by simp [tnFields], last _ (kk _) (tn4.upP tn4.tk rfl rfl ?_) (by rw [upd_ne nx]; exact x4)⟩
    rw [c, Bool.true_or]
    rfl
end
end Ld

set_option Elab.async false
set_option linter.all false
set_option maxRecDepth 100000
set_option maxHeartbeats 4000000
/-! Works: a book at work. -/
namespace Ld
open PySem PySem.Spec PyProof.Rows L2
local macro_rules | `(tactic| walk_at "rd") => `(tactic| try simp only [tSeq, tNext, tRet, tRetN, tIfS, tTest, tB, tAnd, tOr, tNot, tAndV, tOrV, tNotV, tOp, tUn, tC, tVar, tCons, tNil, tCall, tCB, tAsg, tDrop, tChain, tIf, tYes, tBreak, tCont, tNever, tFld, sFld, sFldAug, tMeth, tMake, tRaiseF, tMkF, tM1, tOwn2S, tOwnIxS, tXf, tRevL, tMethS, tTup, tLst, tSl, tPart, tNoPart, tPar, tBM, tBM0, tLenSetT, tAug, gName, gTup, gCons, gNil, gStar2, gFld, gSub, rI0, rI, rU, rIxU, rIxS, rIn, rInU, rAddU, rSlU, rLenU, rTupU, rListU, rRep, rEqU_ss, rEqU_ii, rEqU_bb, rEqU_r, rNeU_ss, rNeU_ii, rNeU_bb, rNeU_r, cxOf, L2.start, wipe, List.map_cons, List.map_nil, List.length_cons, List.length_nil, List.replicate, List.cons_append, List.nil_append, List.append_nil, Nat.reduceSub, Nat.reduceAdd, List.getElem?_cons_zero, List.getElem?_cons_succ, List.set_cons_zero, List.set_cons_succ, Option.some.injEq, exists_eq_left', exists_eq_left, exists_eq, exists_and_left, V.bl.injEq, V.int.injEq, V.str.injEq, V.ref.injEq, V.ty.injEq, reduceCtorEq, false_and, and_false, exists_false, false_or, or_false, true_and, and_true, if_true, if_false, Bool.false_eq_true, ite_true, ite_false, reduceIte, decide_true, decide_false, Bool.not_true, Bool.not_false, Bool.not_eq_true, Bool.true_and, Bool.false_and, Bool.and_true, Bool.and_false, List.cons.injEq, and_assoc])
local macro_rules | `(tactic| walk_at "rn") => `(tactic| try simp only [tSeq, tNext, tRet, tRetN, tIfS, tTest, tB, tAnd, tOr, tNot, tAndV, tOrV, tNotV, tOp, tUn, tC, tVar, tCons, tNil, tCall, tCB, tAsg, tDrop, tChain, tIf, tYes, tBreak, tCont, tNever, tFld, sFld, sFldAug, tMeth, tMake, tRaiseF, tMkF, tM1, tOwn2S, tOwnIxS, tXf, tRevL, tMethS, tCallS, tMethK1, tDNewK, tRevT, Ends.cut, tDGet, rNotN, tNGet, sNPut, tNNew, tTup, tLst, tSl, tPart, tNoPart, tPar, tBM, tBM0, tLenSetT, tAug, gName, gTup, gCons, gNil, gStar2, gFld, gSub, rI0, rI, rU, rAddU_ii, tFor_rng, tLc_rng, rRep, rEqU_ss, rEqU_ii, rEqU_bb, rEqU_r, rNeU_ss, rNeU_ii, rNeU_bb, rNeU_r, cxOf, L2.start, wipe, List.map_cons, List.map_nil, List.length_cons, List.length_nil, List.replicate, List.cons_append, List.nil_append, List.append_nil, Nat.reduceSub, Nat.reduceAdd, List.getElem?_cons_zero, List.getElem?_cons_succ, List.set_cons_zero, List.set_cons_succ, Option.some.injEq, exists_eq_left', exists_eq_left, exists_eq, exists_and_left, V.bl.injEq, V.int.injEq, V.str.injEq, V.ref.injEq, V.ty.injEq, reduceCtorEq, false_and, and_false, exists_false, false_or, or_false, true_and, and_true, if_true, if_false, Bool.false_eq_true, ite_true, ite_false, reduceIte, decide_true, decide_false, Bool.not_true, Bool.not_false, Bool.not_eq_true, Bool.true_and, Bool.false_and, Bool.and_true, Bool.and_false, List.cons.injEq, and_assoc])
local macro_rules | `(tactic| walk_at "lay") => `(tactic| (apply lay_new; intro l h qq s n e; rw [← qq]; clear qq))
section
variable {P : Program} {w : World} {K : PySem.W.Frag} {mg : Str → Option Value} {base : Heap} {Z : Ad}
theorem RuAt.tps {H H' : Hp} {dsk : List Str} {v : V} {r : Ru} (h : RuAt K H dsk v r) (k : Tps K H H') : RuAt K H' dsk v r := h.keep k.t k.p
theorem BookIs.tps {C : Addr} {H H' : Hp} {a : Addr} {dsk : List Str} {rs : List PyData} (h : BookIs K C H (.ref a) dsk rs) (e : ∀ o, H a = some o → H' a = some o) (k : Tps K H H') : BookIs K C H' (.ref a) dsk rs := by
  obtain ⟨a', dx, vd, vr, ea, ha, hd, hr, g⟩ := h
  cases ea
  exact ⟨a, dx, vd, vr, rfl, e _ ha, dp_ts k.t 1 (fun x m => by obtain ⟨z, _, rfl⟩ := List.mem_map.mp m; rfl) hd, dp_ts k.t 4 (rules_tpR (firstBad_none dsk rs 0 g.2).2) hr, g⟩
structure WkAt (P : Program) (w : World) (K : PySem.W.Frag) (Z : Ad) (H : Hp) (W dx ba rd ed : Addr) (dsk : List Str) (rs : List PyData) (bad : Addr → Prop) (n : Nat) : Prop where
  ins : H W = some (.ins Z.Works dx [("rulebook", V.ref ba), ("_rules_at", V.ref rd), ("_effects", V.ref ed)])
  bk : BookIs K Z.Book H (.ref ba) dsk rs
  ne : ¬ bad W ∧ ¬ bad ba ∧ ¬ bad rd ∧ ¬ bad ed
  rules : ∃ ents, H rd = some (.dK ents) ∧ ∀ ev ∈ eventsS, ∃ l xs, valV ents (.inr ev) = some (V.ref l) ∧ H l = some (.lst xs) ∧ ¬ bad l ∧ Paired (RuAt K H dsk) xs (rulesAt ev 0 rs)
  eff : ∃ kvs, ND P w H ed kvs ∧ kvs.length ≤ n ∧ ∀ p ∈ kvs, ∃ x dxe ls la, p.2.2 = V.ref x ∧ EfAt Z.Effect H x dxe ls la (effT rs p.1 p.2.1) ∧ ¬ bad x ∧ ¬ bad ls ∧ ¬ bad la
theorem WkAt.keep {H H' : Hp} {W dx ba rd ed : Addr} {dsk : List Str} {rs : List PyData} {bad : Addr → Prop} {n : Nat} (x : WkAt P w K Z H W dx ba rd ed dsk rs bad n) (k : Keep bad H H') (soft : ∀ b, bad b → Soft H b) : WkAt P w K Z H' W dx ba rd ed dsk rs bad n := by
  have tp : Tps K H H' := tps_of k soft
  obtain ⟨h1, h2, h3, ⟨ents, h4, h5⟩, kvs, h6, h7, h8⟩ := x
  refine ⟨k _ _ h3.1 h1, h2.tps (fun o e => k _ _ h3.2.1 e) tp, h3, ⟨ents, k _ _ h3.2.2.1 h4, fun ev m => ?_⟩, kvs, h6.keep (fun o e => k _ _ h3.2.2.2 e) tp.p, h7, fun p m => ?_⟩
  · obtain ⟨l, xs, a, b, c, d⟩ := h5 ev m
    exact ⟨l, xs, a, k _ _ c b, c, d.mono fun _ _ z => z.tps tp⟩
  · obtain ⟨x, dxe, ls, la, a, b, c, d, e⟩ := h8 p m
    exact ⟨x, dxe, ls, la, a, ⟨k _ _ c b.ins, k _ _ d b.ev, k _ _ e b.ac, b.ne⟩, c, d, e⟩
/-- what stands stays apart from what is new -/
theorem WkAt.widen {H : Hp} {W dx ba rd ed : Addr} {dsk : List Str} {rs : List PyData} {bad bad' : Addr → Prop} {n : Nat} (x : WkAt P w K Z H W dx ba rd ed dsk rs bad n) (k : ∀ b, bad' b → bad b ∨ H b = none) : WkAt P w K Z H W dx ba rd ed dsk rs bad' n := by
  have go : ∀ b o, H b = some o → ¬ bad b → ¬ bad' b := fun b o e nb z => by
    rcases k b z with z | z
    · exact nb z
    · rw [e] at z; cases z
  obtain ⟨h1, h2, h3, ⟨ents, h4, h5⟩, kvs, h6, h7, h8⟩ := x
  obtain ⟨a', dx', vd, vr, ea, ha, hb⟩ := id h2
  cases ea
  obtain ⟨es, ep, xs, he, _⟩ := id h6
  refine ⟨h1, h2, ⟨go _ _ h1 h3.1, go _ _ ha h3.2.1, go _ _ h4 h3.2.2.1, go _ _ he h3.2.2.2⟩, ⟨ents, h4, fun ev m => ?_⟩, kvs, h6, h7, fun p m => ?_⟩
  · obtain ⟨l, xs, a, b, c, d⟩ := h5 ev m
    exact ⟨l, xs, a, b, go _ _ b c, d⟩
  · obtain ⟨x, dxe, ls, la, a, b, c, d, e⟩ := h8 p m
    exact ⟨x, dxe, ls, la, a, b, go _ _ b.ins c, go _ _ b.ev d, go _ _ b.ac e⟩
/-- one more effect kept in mind -/
theorem WkAt.more {H H' : Hp} {W dx ba rd ed : Addr} {dsk : List Str} {rs : List PyData} {bad : Addr → Prop} {n : Nat} (x : WkAt P w K Z H W dx ba rd ed dsk rs bad n) (k : Keep (fun b => b = ed) H H') {kvs' : List Ent} (nd : ND P w H' ed kvs') (l : kvs'.length ≤ n + 1)
    (ea : ∀ p ∈ kvs', (∃ x dxe ls la, p.2.2 = V.ref x ∧ EfAt Z.Effect H x dxe ls la (effT rs p.1 p.2.1) ∧ ¬ bad x ∧ ¬ bad ls ∧ ¬ bad la) ∨ ∃ x dxe ls la, p.2.2 = V.ref x ∧ EfAt Z.Effect H' x dxe ls la (effT rs p.1 p.2.1) ∧ ¬ bad x ∧ ¬ bad ls ∧ ¬ bad la) :
    WkAt P w K Z H' W dx ba rd ed dsk rs bad (n + 1) := by
  obtain ⟨h1, h2, h3, ⟨ents, h4, h5⟩, kvs, h6, h7, h8⟩ := x
  obtain ⟨es, ep, xs, he, _⟩ := id h6
  have tp : Tps K H H' := tps_of k fun b z => .inr (.inr (.inr ⟨_, z ▸ he⟩))
  have st : ∀ b o, H b = some o → (∀ p, o ≠ .ext p) → H' b = some o := fun b o e n1 => k b o (fun c => by rw [c, he] at e; injection e with e; exact n1 _ e.symm) e
  obtain ⟨a', dx', vd, vr, ea', ha, hb⟩ := id h2
  cases ea'
  refine ⟨st _ _ h1 fun _ => nofun, h2.tps (fun o e => st _ _ e fun p c => by rw [ha] at e; rw [c] at e; injection e with e; cases e) tp, h3, ⟨ents, st _ _ h4 fun _ => nofun, fun ev m => ?_⟩, kvs', nd, l, fun p m => ?_⟩
  · obtain ⟨l, xs, a, b, c, d⟩ := h5 ev m
    exact ⟨l, xs, a, st _ _ b fun _ => nofun, c, d.mono fun _ _ z => z.tps tp⟩
  · rcases ea p m with h | h
    · obtain ⟨x, dxe, ls, la, a, b, c, d, e⟩ := h
      exact ⟨x, dxe, ls, la, a, ⟨st _ _ b.ins fun _ => nofun, st _ _ b.ev fun _ => nofun, st _ _ b.ac fun _ => nofun, b.ne⟩, c, d, e⟩
    · exact h
def spEffect (P : Program) (w : World) (K : PySem.W.Frag) (Z : Ad) : Sp := fun vs H Q _ => ∃ W dx ba rd ed dsk rs bad n ev v t, vs = [.ref W, .str ev, v] ∧ WkAt P w K Z H W dx ba rd ed dsk rs bad n ∧ ev ∈ eventsS ∧ TkAt H v t ∧ n < 100000 ∧ (∀ b, bad b → Soft H b ∧ H b ≠ none) ∧
  ∀ H' x dxe ls la, Keep (fun b => b = ed) H H' → WkAt P w K Z H' W dx ba rd ed dsk rs bad (n + 1) → EfAt Z.Effect H' x dxe ls la (effT rs ev t) → ¬ bad x → ¬ bad ls → ¬ bad la → Q (.ref x) H'
theorem m_Works_effect (T : TX P K mg Z) : MethOk P w K mg base Z.Works "effect" ["self", "event", "ticket"] 6 (spEffect P w K Z) := by
  refine T.mt_Works_effect.ok T.cl_Works sc_Works_effect (by rintro _ _ _ _ ⟨_, _, _, _, _, _, _, _, _, _, _, _, rfl, _⟩; rfl) fun f cdv A outer s H vs Q E hr h => ?_
  obtain ⟨W, dx, ba, rd, ed, dsk, rs, bad, n, ev, v, t, rfl, wk, hev, hv, hn, hb, q⟩ := h
  refine ⟨_, (pss_cons (ps_set (i := 3) sc_Works_effect.nd rfl (by first | exact Or.inl rfl | exact Or.inr rfl) (pe_tup (pa_cons (pv 1) (pa_cons (pv 2) pa_nil)))) (pss_cons (ps_if (pt_cmpR (op_notInN hr.units) (pv 3) (kFld (K := K) (pv 0) rfl) (by rfl)) (pss_cons (ps_set (i := 4) sc_Works_effect.nd rfl (by first | exact Or.inl rfl | exact Or.inr rfl) (pe_makeD (mk_Effect T) hr rfl passL (pa_cons (pv 2) pa_nil))) (pss_cons (ps_expr (pe_methD (m_Effect_try_rules T) hr (pv 4) passL (pa_cons (pe_dget (hu_of hr) (kFld (K := K) (pv 0) rfl) (pv 1) (fun _ _ => by with_unfolding_all rfl)) pa_nil))) (pss_one (ps_nput hr.units (kFld (K := K) (pv 0) rfl) (pv 3) (pv 4))))) pss_nil) (pss_one (ps_ret (pe_nget hr.units (kFld (K := K) (pv 0) rfl) (pv 3) (fun _ _ => by with_unfolding_all rfl)))))), ?_⟩
  walk_at "rn"
  refine ⟨by decide +kernel, ?_⟩
  walk_at "lay"
  rename_i kp H1 s1 n1 e1
  obtain ⟨h1, h2, h3, ⟨ents, h4, h5⟩, kvs, h6, h7, h8⟩ := id wk
  have nd1 : ND P w H1 ed kvs := h6.keep (s1 _) (fun _ _ e => s1 _ _ e)
  have ka : KeyAt H1 kp ev t := ⟨v, e1, by obtain ⟨b, rfl, hb⟩ := hv; exact ⟨b, rfl, s1 _ _ hb⟩⟩
  have wk1 : WkAt P w K Z H1 W dx ba rd ed dsk rs bad n := wk.keep (fun b o _ e => s1 _ _ e) fun b z => (hb b z).1
  refine ⟨_, _, _, s1 _ _ h1, T.cl_Works, T.na_Works__effects, _, rfl, _, rfl, kvs, nd1, ev, t, ka, ?_⟩
  cases hl : lookE kvs ev t with
  | some y =>
    rw [if_neg (show ¬ (!(some y).isSome) = true by simp)]
    refine ⟨_, _, _, s1 _ _ h1, T.cl_Works, T.na_Works__effects, _, rfl, _, rfl, kvs, nd1, ev, t, ka, _, hl, ?_⟩
    unfold lookE at hl
    obtain ⟨p, hp, rfl⟩ := Option.map_eq_some_iff.mp hl
    have hp2 := List.find?_some hp
    obtain ⟨rfl, rfl⟩ := of_decide_eq_true hp2
    obtain ⟨x, dxe, ls, la, a, b, c, d, e⟩ := h8 p (List.mem_of_find?_eq_some hp)
    rw [a]
    exact q H1 x dxe ls la (fun b o _ e => s1 _ _ e) ⟨wk1.ins, wk1.bk, wk1.ne, wk1.rules, by obtain ⟨k', a, b, c⟩ := wk1.eff; exact ⟨k', a, by omega, c⟩⟩ (b.same s1) c d e
  | none =>
    rw [if_pos (show (!(none : Option V).isSome) = true from rfl)]
    intro x dxe nx ndx nxd
    have s2 : Same H1 (upd (upd H1 dxe (.own x)) x (.ins Z.Effect dxe [])) := fun b o e => by
      rw [upd_ne (ne_of_none e nx), upd_ne (ne_of_none e ndx)]
      exact e
    generalize eG2 : upd (upd H1 dxe (.own x)) x (.ins Z.Effect dxe []) = H2 at s2 ⊢
    have x2 : H2 x = some (.ins Z.Effect dxe []) := by rw [← eG2]; exact upd_same
    have hv2 : TkAt H2 v t := by obtain ⟨b, rfl, hb⟩ := hv; exact ⟨b, rfl, (s1.trans s2) _ _ hb⟩
    refine ⟨x, dxe, v, t, rfl, x2, hv2, fun H3 ls la k3 nls nla ef3 => ⟨rfl, ?_⟩⟩
    have st3 : ∀ b o, H b = some o → H3 b = some o := fun b o e => k3 b o (ne_of_none (s1 _ _ e) nx) ((s1.trans s2) _ _ e)
    obtain ⟨l, xs, l1, l2, l3, l4⟩ := h5 ev hev
    have nl1 : l ≠ ls := ne_of_none ((s1.trans s2) _ _ l2) nls
    have nl2 : l ≠ la := ne_of_none ((s1.trans s2) _ _ l2) nla
    have g8 : rs.length ≤ 8 := by
      obtain ⟨_, _, _, _, _, _, _, _, g⟩ := h2
      have := (firstBad_none dsk rs 0 g.2).1
      cases rs with
      | nil => simp
      | cons r rs => have := this (by simp); omega
    have lra := rulesAt_len ev rs 0
    have rl3 : H3 l = some (.lst xs) := st3 _ _ l2
    refine ⟨_, _, ef3.ins, rfl, _, _, _, st3 _ _ h1, T.cl_Works, T.na_Works__rules_at, _, rfl, _, rfl, .ref l, by rw [← l1]; exact DGet.k (k := .inr ev) (st3 _ _ h4), ?_⟩
    refine ⟨x, dxe, ls, la, efNew t, l, xs, rulesAt ev 0 rs, dsk, rfl, ef3, rl3, nl1, nl2, l4.mono fun _ _ z => z.tps (Tps.of st3), by omega, by simp [efNew], by simp [efNew], fun H4 k4 ef4 => ?_⟩
    have st4 : ∀ b o, H b = some o → H4 b = some o := fun b o e => k4 b o (fun z => by
      rcases z with z | z | z
      · exact ne_of_none (s1 _ _ e) nx z
      · exact ne_of_none ((s1.trans s2) _ _ e) nls z
      · exact ne_of_none ((s1.trans s2) _ _ e) nla z) (st3 _ _ e)
    have nd4 : ND P w H4 ed kvs := h6.keep (st4 _) (fun _ _ e => st4 _ _ e)
    have kp3 : H3 kp = some (.tup [.str ev, v]) := k3 _ _ (ne_of_none e1 nx) (s2 _ _ e1)
    have kp4 : H4 kp = some (.tup [.str ev, v]) := ef3.tup k4 _ _ kp3
    have ka4 : KeyAt H4 kp ev t := ⟨v, kp4, by obtain ⟨b, rfl, hb⟩ := hv; exact ⟨b, rfl, st4 _ _ hb⟩⟩
    refine ⟨_, _, _, st4 _ _ h1, T.cl_Works, T.na_Works__effects, _, rfl, _, rfl, kvs, nd4, ev, t, ka4, hl, Nat.lt_of_le_of_lt h7 (Nat.lt_trans hn (by decide)), fun H5 k5 nd5 => ?_⟩
    obtain ⟨es, ep, xs6, he, _⟩ := id h6
    have k05 : Keep (fun b => b = ed) H H5 := fun b o nb e => by rw [k5 b nb]; exact st4 _ _ e
    have ne5 : ∀ b, H b = none → b ≠ ed := fun b e c => by rw [c, he] at e; cases e
    have fx : H x = none := by
      cases e : H x with
      | none => rfl
      | some o => rw [s1 _ _ e] at nx; cases nx
    have fl : H ls = none := by
      cases e : H ls with
      | none => rfl
      | some o => rw [(s1.trans s2) _ _ e] at nls; cases nls
    have fa : H la = none := by
      cases e : H la with
      | none => rfl
      | some o => rw [(s1.trans s2) _ _ e] at nla; cases nla
    have fk : kp ≠ ed := ne5 _ n1
    have ef5 : EfAt Z.Effect H5 x dxe ls la (effT rs ev t) := ⟨by rw [k5 _ (ne5 _ fx)]; exact ef4.ins, by rw [k5 _ (ne5 _ fl)]; exact ef4.ev, by rw [k5 _ (ne5 _ fa)]; exact ef4.ac, ef4.ne⟩
    have nb : ∀ b, H b = none → ¬ bad b := fun b e z => (hb b z).2 e
    have hW5 : H5 W = some (.ins Z.Works dx [("rulebook", V.ref ba), ("_rules_at", V.ref rd), ("_effects", V.ref ed)]) := k05 _ _ (fun c => by rw [c, he] at h1; cases h1) h1
    have ka5 : KeyAt H5 kp ev t := ⟨v, by rw [k5 _ fk]; exact kp4, by obtain ⟨b, rfl, hb⟩ := hv; exact ⟨b, rfl, k05 _ _ (fun c => by rw [c, he] at hb; cases hb) hb⟩⟩
    refine ⟨_, _, _, hW5, T.cl_Works, T.na_Works__effects, _, rfl, _, rfl, _, nd5, ev, t, ka5, .ref x, ?_, ?_⟩
    · unfold lookE at hl ⊢
      rw [Option.map_eq_none_iff] at hl
      rw [List.find?_append, hl]
      simp
    · refine q H5 x dxe ls la k05 (wk.more k05 nd5 (by rw [List.length_append, List.length_singleton]; omega) fun p m => ?_) ef5 (nb _ fx) (nb _ fl) (nb _ fa)
      rcases List.mem_append.mp m with m | m
      · exact .inl (h8 p m)
      · rw [List.mem_singleton.mp m]
        exact .inr ⟨x, dxe, ls, la, rfl, ef5, nb _ fx, nb _ fl, nb _ fa⟩
end
end Ld

set_option Elab.async false
set_option linter.all false
set_option maxRecDepth 100000
set_option maxHeartbeats 4000000
/-! Turn: its events, one by one. -/
namespace Ld
open PySem PySem.Spec PyProof.Rows L2
local macro_rules | `(tactic| walk_at "rd") => `(tactic| try simp only [tSeq, tNext, tRet, tRetN, tIfS, tTest, tB, tAnd, tOr, tNot, tAndV, tOrV, tNotV, tOp, tUn, tC, tVar, tCons, tNil, tCall, tCB, tAsg, tDrop, tChain, tIf, tYes, tBreak, tCont, tNever, tFld, sFld, sFldAug, tMeth, tMake, tRaiseF, tMkF, tM1, tOwn2S, tOwnIxS, tXf, tRevL, tMethS, tTup, tLst, tSl, tPart, tNoPart, tPar, tBM, tBM0, tLenSetT, tAug, gName, gTup, gCons, gNil, gStar2, gFld, gSub, rI0, rI, rU, rIxU, rIxS, rIn, rInU, rAddU, rSlU, rLenU, rTupU, rListU, rRep, rEqU_ss, rEqU_ii, rEqU_bb, rEqU_r, rNeU_ss, rNeU_ii, rNeU_bb, rNeU_r, cxOf, L2.start, wipe, List.map_cons, List.map_nil, List.length_cons, List.length_nil, List.replicate, List.cons_append, List.nil_append, List.append_nil, Nat.reduceSub, Nat.reduceAdd, List.getElem?_cons_zero, List.getElem?_cons_succ, List.set_cons_zero, List.set_cons_succ, Option.some.injEq, exists_eq_left', exists_eq_left, exists_eq, exists_and_left, V.bl.injEq, V.int.injEq, V.str.injEq, V.ref.injEq, V.ty.injEq, reduceCtorEq, false_and, and_false, exists_false, false_or, or_false, true_and, and_true, if_true, if_false, Bool.false_eq_true, ite_true, ite_false, reduceIte, decide_true, decide_false, Bool.not_true, Bool.not_false, Bool.not_eq_true, Bool.true_and, Bool.false_and, Bool.and_true, Bool.and_false, List.cons.injEq, and_assoc])
local macro_rules | `(tactic| walk_at "rn") => `(tactic| try simp only [tSeq, tNext, tRet, tRetN, tIfS, tTest, tB, tAnd, tOr, tNot, tAndV, tOrV, tNotV, tOp, tUn, tC, tVar, tCons, tNil, tCall, tCB, tAsg, tDrop, tChain, tIf, tYes, tBreak, tCont, tNever, tFld, sFld, sFldAug, tMeth, tMake, tRaiseF, tMkF, tM1, tOwn2S, tOwnIxS, tXf, tRevL, tMethS, tCallS, tMethK1, tDNewK, tRevT, Ends.cut, tDGet, rNotN, tNGet, sNPut, tNNew, tTup, tLst, tSl, tPart, tNoPart, tPar, tBM, tBM0, tLenSetT, tAug, gName, gTup, gCons, gNil, gStar2, gFld, gSub, rI0, rI, rU, rAddU_ii, tFor_rng, tLc_rng, rRep, rEqU_ss, rEqU_ii, rEqU_bb, rEqU_r, rNeU_ss, rNeU_ii, rNeU_bb, rNeU_r, cxOf, L2.start, wipe, List.map_cons, List.map_nil, List.length_cons, List.length_nil, List.replicate, List.cons_append, List.nil_append, List.append_nil, Nat.reduceSub, Nat.reduceAdd, List.getElem?_cons_zero, List.getElem?_cons_succ, List.set_cons_zero, List.set_cons_succ, Option.some.injEq, exists_eq_left', exists_eq_left, exists_eq, exists_and_left, V.bl.injEq, V.int.injEq, V.str.injEq, V.ref.injEq, V.ty.injEq, reduceCtorEq, false_and, and_false, exists_false, false_or, or_false, true_and, and_true, if_true, if_false, Bool.false_eq_true, ite_true, ite_false, reduceIte, decide_true, decide_false, Bool.not_true, Bool.not_false, Bool.not_eq_true, Bool.true_and, Bool.false_and, Bool.and_true, Bool.and_false, List.cons.injEq, and_assoc])
local macro_rules | `(tactic| walk_at "lay") => `(tactic| (apply lay_new; intro l h qq s n e; rw [← qq]; clear qq))
section
variable {P : Program} {w : World} {K : PySem.W.Frag} {mg : Str → Option Value} {base : Heap} {Z : Ad}
theorem WkAt.up {H : Hp} {W dx ba rd ed : Addr} {dsk : List Str} {rs : List PyData} {bad : Addr → Prop} {n m : Nat} (x : WkAt P w K Z H W dx ba rd ed dsk rs bad n) (h : n ≤ m) : WkAt P w K Z H W dx ba rd ed dsk rs bad m :=
  ⟨x.ins, x.bk, x.ne, x.rules, by obtain ⟨k, a, b, c⟩ := x.eff; exact ⟨k, a, by omega, c⟩⟩
theorem TnAt.keep {C : Addr} {H H' : Hp} {a dx la lk : Addr} {t : Tn} (x : TnAt C H a dx la lk t) (bad : Addr → Prop) (k : Keep bad H H') (ha : ¬ bad a) (hl : ¬ bad la) (hk : ¬ bad lk) (tp : Tps K H H') : TnAt C H' a dx la lk t := by
  obtain ⟨⟨vb, h1, h2⟩, h3, h4, h5⟩ := x
  exact ⟨⟨vb, k _ _ ha h1, h2.keep tp⟩, k _ _ hl h3, k _ _ hk h4, h5⟩
theorem TnAt.soft {C : Addr} {H : Hp} {a dx la lk : Addr} {t : Tn} (x : TnAt C H a dx la lk t) : Soft H a ∧ Soft H la ∧ Soft H lk := by
  obtain ⟨⟨vb, h1, h2⟩, h3, h4, h5⟩ := x
  exact ⟨.inr (.inr (.inl ⟨_, _, _, h1⟩)), .inr (.inl ⟨_, h3⟩), .inr (.inl ⟨_, h4⟩)⟩
theorem WkAt.ed_ext {H : Hp} {W dx ba rd ed : Addr} {dsk : List Str} {rs : List PyData} {bad : Addr → Prop} {n : Nat} (x : WkAt P w K Z H W dx ba rd ed dsk rs bad n) : ∃ p, H ed = some (.ext p) := by
  obtain ⟨k, ⟨es, ep, xs, h, _⟩, _, _⟩ := x.eff
  exact ⟨_, h⟩
theorem WkAt.good {H : Hp} {W dx ba rd ed : Addr} {dsk : List Str} {rs : List PyData} {bad : Addr → Prop} {n : Nat} (x : WkAt P w K Z H W dx ba rd ed dsk rs bad n) : (∀ e ∈ rs, isRuleD dsk e = true) ∧ rs.length ≤ 8 := by
  obtain ⟨_, _, _, _, _, _, _, _, g⟩ := x.bk
  refine ⟨(firstBad_none dsk rs 0 g.2).2, ?_⟩
  have := (firstBad_none dsk rs 0 g.2).1
  cases rs with
  | nil => simp
  | cons r rs => have := this (by simp); omega
def SoftAll (bad0 : Addr → Prop) (H : Hp) : Prop := ∀ b, bad0 b → Soft H b ∧ H b ≠ none
theorem SoftAll.keep {H H' : Hp} {bad0 bad : Addr → Prop} (h : SoftAll bad0 H) (k : Keep bad H H') (hb : ∀ b, bad b → Soft H' b ∧ H' b ≠ none) : SoftAll bad0 H' := fun b z => by
  by_cases c : bad b
  · exact hb b c
  · obtain ⟨h1, h2⟩ := h b z
    cases e : H b with
    | none => exact absurd e h2
    | some o =>
      have e' := k _ _ c e
      unfold Soft at h1 ⊢
      rw [e'] 
      rw [e] at h1
      exact ⟨h1, nofun⟩
def badT (bad0 : Addr → Prop) (a la lk l : Addr) : Addr → Prop := fun b => bad0 b ∨ b = a ∨ b = la ∨ b = lk ∨ b = l
/-- within the loop -/
def RunInv (P : Program) (w : World) (K : PySem.W.Frag) (Z : Ad) (bad0 : Addr → Prop) (H0 : Hp) (a dxt la lk l W dx ba rd ed : Addr) (dsk : List Str) (rs : List PyData) (n : Nat) (t : Tn) (hd : Nat) (H : Hp) : Prop :=
  ∃ (evs : List Str) (t1 : Tn), H l = some (.lst (evs.map V.str)) ∧ TnAt Z.Turn H a dxt la lk t1 ∧ WkAt P w K Z H W dx ba rd ed dsk rs (badT bad0 a la lk l) (n + hd) ∧ hd ≤ evs.length ∧ hd ≤ 50 ∧
    queueT (effT rs) (50 - hd) (evs.drop hd) t1 = queueT (effT rs) 50 (firstQ t.event) t ∧ (∀ z ∈ evs, z ∈ eventsS) ∧ evs.length ≤ 1 + 32 * hd ∧ t1.acted.length ≤ t.acted.length + 8 * hd ∧ Keep (fun b => b = a ∨ b = la ∨ b = lk ∨ b = ed) H0 H ∧ SoftAll bad0 H
def spRunT (P : Program) (w : World) (K : PySem.W.Frag) (Z : Ad) : Sp := fun vs H Q _ => ∃ bad0 a dxt la lk t W dx ba rd ed dsk rs n, vs = [.ref a, .ref W] ∧ TnAt Z.Turn H a dxt la lk t ∧ WkAt P w K Z H W dx ba rd ed dsk rs (fun b => bad0 b ∨ b = a ∨ b = la ∨ b = lk) n ∧ (∀ z, t.event = some z → z ∈ eventsS) ∧ n < 90000 ∧ SoftAll bad0 H ∧ t.acted.length ≤ 10000 ∧
  ∀ H' lk', H lk' = none → Keep (fun b => b = a ∨ b = la ∨ b = lk ∨ b = ed) H H' → TnAt Z.Turn H' a dxt la lk' (endT (queueT (effT rs) 50 (firstQ t.event) t)) → WkAt P w K Z H' W dx ba rd ed dsk rs (fun b => bad0 b ∨ b = a ∨ b = la ∨ b = lk) (n + 50) → Q .non H'
theorem m_Turn_run (T : TX P K mg Z) : MethOk P w K mg base Z.Turn "run" ["self", "works"] 8 (spRunT P w K Z) := by
  refine T.mt_Turn_run.ok T.cl_Turn sc_Turn_run (by rintro _ _ _ _ ⟨_, _, _, _, _, _, _, _, _, _, _, _, _, _, rfl, _⟩; rfl) fun f cdv A outer s H vs Q E hr h => ?_
  obtain ⟨bad0, a, dxt, la, lk, t, W, dx, ba, rd, ed, dsk, rs, n, rfl, tn, wk, hev, hn, so0, hac, q⟩ := h
  obtain ⟨t3, h3, m3⟩ : ∃ u, PSs (cxOf (L2.CX P w) P w K mg base ["self", "works", "events", "handled", "effect"] "Turn.run" (defScope s_Turn_run) f cdv A outer s H E) ((defBody s_Turn_run).drop 3) u ∧ ∀ (l : Addr) (H2 : Hp) (hd : Nat) (o : Option V) (evs : List Str) (t1 : Tn), H l = none → H2 l = some (.lst (evs.map V.str)) → TnAt Z.Turn H2 a dxt la lk t1 → WkAt P w K Z H2 W dx ba rd ed dsk rs (badT bad0 a la lk l) (n + hd) → hd ≤ 50 → hd ≤ evs.length →
      queueT (effT rs) 50 (firstQ t.event) t = (evs.drop hd, t1) → Keep (fun b => b = a ∨ b = la ∨ b = lk ∨ b = ed) H H2 → SoftAll bad0 H2 → u { nx := fun _ H' => Q .non H', rt := Q } [some (.ref a), some (.ref W), some (.ref l), some (.int (hd : Nat)), o] H2 := by
    refine ⟨_, (pss_cons (ps_fld (pv 0) (pe_cmpR op_lt (pv 3) (pe_callB (kLen (K := K)) (by rfl) T.b_len PySem.boot_len (pa_cons (pv 2) pa_nil)) (nomark _)) rfl) (pss_one (ps_fld (pv 0) (pe_methD0 (m_Turn_fault_kinds T) hr (pv 0) passL) rfl))), ?_⟩
    intro l H2 hd o evs t1 nl el tn1 wk1 le2 le1 qu k1 so2
    walk_at "rn"
    refine len_l (.inl (.inl el)) ?_
    rw [List.length_map]
    obtain ⟨vb, tv⟩ := tn1.v
    obtain ⟨pe, hee⟩ := wk1.ed_ext
    refine ⟨_, rfl, _, _, _, tv.ins, T.cl_Turn, T.na_Turn_endless, by simp [tnFields], ?_⟩
    generalize eG3 : upd H2 a _ = H3
    have tv3 : TnV Z.Turn H3 a dxt la lk vb { t1 with endless := decide ((hd : Int) < (evs.length : Int)) } := by rw [← eG3]; exact tv.upP tv.tk rfl rfl rfl
    have k23 : Keep (fun b => b = a) H2 H3 := fun b o nb e => by rw [← eG3, upd_ne nb]; exact e
    refine ⟨_, _, tv3.ins, rfl, a, dxt, la, lk, _, rfl, tv3.at_, fun lk' H4 s4 nk ek => ?_⟩
    have tv4 := tv3.same s4
    refine ⟨_, _, _, tv4.ins, T.cl_Turn, T.na_Turn_kinds, by simp [tnFields], ?_⟩
    have k24 : ∀ o, Keep (fun b => b = a) H2 (upd H4 a o) := fun o b o' nb e => by rw [upd_ne nb]; exact s4 _ _ (k23 _ _ nb e)
    have nka : lk' ≠ a := fun c => by rw [c, tv3.ins] at nk; cases nk
    have nkl : la ≠ lk' := fun c => by rw [← c, tv3.ac] at nk; cases nk
    have ee : (!(evs.drop hd).isEmpty) = decide ((hd : Int) < (evs.length : Int)) := by
      rw [Bool.eq_iff_iff]
      simp only [Bool.not_eq_true', List.isEmpty_eq_false_iff, ne_eq, List.drop_eq_nil_iff, decide_eq_true_eq]
      omega
    have nkH : H lk' = none := by
      cases e : H lk' with
      | none => rfl
      | some o =>
        by_cases c : lk' = lk
        · rw [c, tv3.kd] at nk; cases nk
        · by_cases c2 : lk' = ed
          · have := k23 ed _ (fun c => by have h := tv.ins; rw [← c, hee] at h; cases h) hee
            rw [c2, this] at nk
            cases nk
          · have := k23 _ _ nka (k1 _ _ (fun z => by
              rcases z with z | z | z | z
              · exact nka z
              · exact nkl z.symm
              · exact c z
              · exact c2 z) e)
            rw [nk] at this
            cases this
    refine q _ lk' nkH (fun b o nb e => k24 _ b o (fun c => nb (.inl c)) (k1 _ _ nb e)) ?_ ?_
    · rw [qu]
      unfold endT
      dsimp only
      rw [ee]
      obtain ⟨b, eb, hb⟩ := tv4.tk
      have nb : b ≠ a := fun c => by rw [c, tv4.ins] at hb; cases hb
      exact ⟨⟨vb, by rw [upd_same]; rfl, b, eb, by rw [upd_ne nb]; exact hb⟩, by rw [upd_ne tv.nla]; exact tv4.ac, by rw [upd_ne nka]; exact ek, nkl⟩
    · refine ((wk1.widen (bad' := fun b => bad0 b ∨ b = a ∨ b = la ∨ b = lk) fun b z => .inl ?_).keep (fun b o nb e => k24 _ b o (fun c => nb (.inr (.inl c))) e) fun b z => ?_).up (by omega)
      · rcases z with z | z | z | z
        · exact .inl z
        · exact .inr (.inl z)
        · exact .inr (.inr (.inl z))
        · exact .inr (.inr (.inr (.inl z)))
      · obtain ⟨x1, x2, x3⟩ := tn1.soft
        rcases z with z | rfl | rfl | rfl
        · exact (so2 b z).1
        · exact x1
        · exact x2
        · exact x3
  obtain ⟨t2, h2, m2⟩ : ∃ u, PSs (cxOf (L2.CX P w) P w K mg base ["self", "works", "events", "handled", "effect"] "Turn.run" (defScope s_Turn_run) f cdv A outer s H E) ((defBody s_Turn_run).drop 2) u ∧ ∀ (l : Addr) (H1 : Hp) (o : Option V), H l = none → RunInv P w K Z bad0 H a dxt la lk l W dx ba rd ed dsk rs n t 0 H1 → u { nx := fun _ H' => Q .non H', rt := Q } [some (.ref a), some (.ref W), some (.ref l), some (.int 0), o] H1 := by
    refine ⟨_, (pss_cons (ps_while (passes_of rfl) (PW.pt (pw_and (pt_cmpR op_lt (pv 3) (pe_callB (kLen (K := K)) (by rfl) T.b_len PySem.boot_len (pa_cons (pv 2) pa_nil)) (nomark _)) (pw_and1 (pt_cmpR op_lt (pv 3) (pe_globE rfl T.g_MOST_EVENTS) (nomark _))))) (pss_cons (ps_set (i := 4) sc_Turn_run.nd rfl (by first | exact Or.inl rfl | exact Or.inr rfl) (pe_methD (m_Works_effect T) hr (pv 1) passL (pa_cons (pe_ix (kIx (K := K)) (pv 2) (pv 3) (fun _ _ => rfl)) (pa_cons (kFld (K := K) (pv 0) rfl) pa_nil)))) (pss_cons (ps_expr (pe_methD (m_Turn_take T) hr (pv 0) passL (pa_cons (pv 4) pa_nil))) (pss_cons (ps_expr (kBm (K := K) PySem.F.plainAttrs_list PySem.F.slot_list_extend PySem.F.type_list_extend mt_extend (pv 2) (pa_cons (kFld (K := K) (pv 4) rfl) pa_nil))) (pss_one (ps_aug (i := 3) sc_Turn_run.nd rfl (by first | exact Or.inl rfl | exact Or.inr rfl) pe_int ip_add)))))) h3), ?_⟩
    intro l H1 o nl iv
    walk_at "rn"
    refine ⟨fun m σ H' => ∃ hd o, m = 50 - hd ∧ σ = [some (.ref a), some (.ref W), some (.ref l), some (.int (hd : Nat)), o] ∧ RunInv P w K Z bad0 H a dxt la lk l W dx ba rd ed dsk rs n t hd H', ⟨_, 0, o, rfl, rfl, iv⟩, ?_⟩
    rintro m σ H2 ⟨hd, o, rfl, rfl, evs, t1, el, tn1, wk1, le1, le2, qu, inE, lenE, lenA, k1, so2⟩
    walk_at "rn"
    refine len_l (.inl (.inl el)) ⟨_, rfl, ?_⟩
    rw [List.length_map]
    obtain ⟨b0, hb0⟩ := wk.ed_ext
    obtain ⟨vb0, tv0⟩ := tn.v
    have la1 : l ≠ a := fun c => by rw [c, tv0.ins] at nl; cases nl
    have la2 : l ≠ la := fun c => by rw [c, tv0.ac] at nl; cases nl
    have la3 : l ≠ lk := fun c => by rw [c, tv0.kd] at nl; cases nl
    have la4 : l ≠ ed := fun c => by rw [c, hb0] at nl; cases nl
    obtain ⟨vb, tv⟩ := tn1.v
    obtain ⟨pe, hpe⟩ := wk1.ed_ext
    have ed1 : a ≠ ed := fun c => by have h := tv.ins; rw [c, hpe] at h; cases h
    have ed2 : la ≠ ed := fun c => by have h := tv.ac; rw [c, hpe] at h; cases h
    have ed3 : lk ≠ ed := fun c => by have h := tv.kd; rw [c, hpe] at h; cases h
    by_cases c : hd < evs.length
    · rw [if_pos (decide_eq_true (by omega))]
      by_cases c2 : hd < 50
      · rw [if_pos (decide_eq_true (by omega))]
        refine ⟨fun σ' H' => ∃ o, σ' = [some (.ref a), some (.ref W), some (.ref l), some (.int ((hd + 1 : Nat) : Int)), o] ∧ RunInv P w K Z bad0 H a dxt la lk l W dx ba rd ed dsk rs n t (hd + 1) H', ?_, ?_⟩
        · rintro σ' H' ⟨o, rfl, z⟩
          exact ⟨50 - (hd + 1), by omega, hd + 1, rfl, o, rfl, z⟩
        have eh : evs[hd]? = some evs[hd] := List.getElem?_eq_getElem c
        refine ⟨_, _, wk1.ins, rfl, ix_l (.inl (.inl el)) (atI_nat (by rw [List.getElem?_map, eh]; rfl)) ?_⟩
        refine ⟨_, _, _, tv.ins, T.cl_Turn, T.na_Turn_behind, _, rfl, W, dx, ba, rd, ed, dsk, rs, badT bad0 a la lk l, n + hd, evs[hd], vb, t1.behind, rfl, wk1, inE _ (List.getElem_mem c), tv.tk, by omega, fun b z => ?_, fun H3 x dxe ls le k3 wk3 ef3 nx nls nle => ?_⟩
        · rcases z with z | rfl | rfl | rfl | rfl
          · exact so2 b z
          · exact ⟨.inr (.inr (.inl ⟨_, _, _, tv.ins⟩)), by rw [tv.ins]; exact nofun⟩
          · exact ⟨.inr (.inl ⟨_, tv.ac⟩), by rw [tv.ac]; exact nofun⟩
          · exact ⟨.inr (.inl ⟨_, tv.kd⟩), by rw [tv.kd]; exact nofun⟩
          · exact ⟨.inr (.inl ⟨_, el⟩), by rw [el]; exact nofun⟩
        have tp3 : Tps K H2 H3 := tps_of k3 fun b z => .inr (.inr (.inr ⟨_, z ▸ hpe⟩))
        have tn3 := tn1.keep _ k3 ed1 ed2 ed3 tp3
        have el3 : H3 l = some (.lst (evs.map V.str)) := k3 _ _ la4 el
        obtain ⟨g1, g2⟩ := wk.good
        obtain ⟨o1, o2, o3⟩ := effT_ok (evs[hd]) t1.behind g1 g2
        obtain ⟨vb3, tv3⟩ := tn3.v
        refine ⟨_, _, tv3.ins, rfl, a, dxt, la, lk, t1, x, dxe, ls, le, _, rfl, tn3, ef3, by omega, by omega, fun H4 k4 tn4 => ?_⟩
        have so : ∀ b, b = a ∨ b = la → Soft H3 b := fun b z => by
          rcases z with rfl | rfl
          · exact tn3.soft.1
          · exact tn3.soft.2.1
        have tp4 : Tps K H3 H4 := tps_of k4 so
        have so3 : SoftAll bad0 H3 := so2.keep k3 fun b z => by
          obtain ⟨p3, h3⟩ := wk3.ed_ext
          rw [z]
          exact ⟨.inr (.inr (.inr ⟨_, h3⟩)), by rw [h3]; exact nofun⟩
        have soT : ∀ b, badT bad0 a la lk l b → Soft H3 b := fun b z => by
          rcases z with z | rfl | rfl | rfl | rfl
          · exact (so3 b z).1
          · exact tn3.soft.1
          · exact tn3.soft.2.1
          · exact tn3.soft.2.2
          · exact .inr (.inl ⟨_, el3⟩)
        have wk4 := wk3.keep (fun b o nb e => k4 b o (fun z => nb (.inr (z.elim .inl fun z => .inr (.inl z)))) e) soT
        have so4 : SoftAll bad0 H4 := so3.keep k4 fun b z => by
          obtain ⟨vb4, tv4⟩ := tn4.v
          rcases z with rfl | rfl
          · exact ⟨tn4.soft.1, by rw [tv4.ins]; exact nofun⟩
          · exact ⟨tn4.soft.2.1, by rw [tv4.ac]; exact nofun⟩
        have el4 : H4 l = some (.lst (evs.map V.str)) := k4 _ _ (fun z => z.elim la1 la2) el3
        have efA : ∀ b, ¬ badT bad0 a la lk l b → ¬ (b = a ∨ b = la) := fun b nb z => nb (.inr (z.elim .inl fun z => .inr (.inl z)))
        have x4 := k4 _ _ (efA _ nx) ef3.ins
        have s4 := k4 _ _ (efA _ nls) ef3.ev
        refine ⟨.inl ⟨rfl, _, .inl (.inl el4)⟩, x, rfl, _, _, _, x4, T.cl_Effect, T.na_Effect_events, _, rfl, l, ls, _, _, rfl, rfl, el4, s4, by rw [List.length_map, List.length_map]; exact Nat.le_trans (show evs.length + (effT rs evs[hd] t1.behind).events.length ≤ 2000 by omega) (by decide), _, _, rfl, rfl, _, rfl, ?_⟩
        have soT4 : ∀ b, b = l → Soft H4 b := fun b z => .inr (.inl ⟨_, z ▸ el4⟩)
        have k5 : Keep (fun b => b = l) H4 (upd H4 l (.lst (evs.map V.str ++ (effT rs evs[hd] t1.behind).events.map V.str))) := fun b o nb e => by rw [upd_ne nb]; exact e
        have tn5 := tn4.keep _ k5 (Ne.symm la1) (Ne.symm la2) (Ne.symm la3) (tps_of (K := K) k5 soT4)
        have so5 : SoftAll bad0 _ := so4.keep k5 fun b z => by
          rw [z, upd_same]
          exact ⟨.inr (.inl ⟨_, upd_same⟩), nofun⟩
        have soT5 : ∀ b, badT bad0 a la lk l b → Soft H4 b := fun b z => by
          rcases z with z | rfl | rfl | rfl | rfl
          · exact (so4 b z).1
          · exact tn4.soft.1
          · exact tn4.soft.2.1
          · exact tn4.soft.2.2
          · exact .inr (.inl ⟨_, el4⟩)
        have wk5 := wk4.keep (fun b o nb e => k5 b o (fun z => nb (.inr (.inr (.inr (.inr z))))) e) soT5
        have eq50 : 50 - hd = (50 - (hd + 1)) + 1 := by omega
        have edr : evs.drop hd = evs[hd] :: evs.drop (hd + 1) := List.drop_eq_getElem_cons c
        refine ⟨evs ++ (effT rs evs[hd] t1.behind).events, takeT t1 (effT rs evs[hd] t1.behind), by rw [upd_same, List.map_append], tn5, wk5, by rw [List.length_append]; omega, by omega, ?_, fun z m => ?_, by rw [List.length_append]; omega, ?_, fun b o nb e => ?_, so5⟩
        · rw [← qu, eq50, edr, List.drop_append_of_le_length (by omega)]
          rfl
        · rcases List.mem_append.mp m with m | m
          · exact inE z m
          · exact o3 z m
        · unfold takeT
          simp only [List.length_append]
          omega
        · have nbl : b ≠ l := ne_of_none e nl
          rw [upd_ne nbl]
          refine k4 _ _ (fun z => nb (z.elim .inl fun z => .inr (.inl z))) (k3 _ _ (fun z => nb (.inr (.inr (.inr z)))) (k1 _ _ nb e))
      · rw [if_neg (by rw [decide_eq_false (by omega)]; exact Bool.false_ne_true)]
        have e50 : hd = 50 := by omega
        refine m3 l H2 hd o evs t1 nl el tn1 wk1 le2 le1 ?_ k1 so2
        rw [← qu]
        subst e50
        rfl
    · rw [if_neg (by rw [decide_eq_false (by omega)]; exact Bool.false_ne_true)]
      refine m3 l H2 hd o evs t1 nl el tn1 wk1 le2 le1 ?_ k1 so2
      rw [← qu, List.drop_eq_nil_of_le (by omega), queueT_nil]
  refine ⟨_, (pss_cons (ps_set (i := 2) sc_Turn_run.nd rfl (by first | exact Or.inl rfl | exact Or.inr rfl) (pe_ifExp (pt_cmpR op_isN (kFld (K := K) (pv 0) rfl) pe_non (nomark _)) (pe_lst pa_nil) (pe_lst (pa_cons (kFld (K := K) (pv 0) rfl) pa_nil)))) (pss_cons (ps_set (i := 3) sc_Turn_run.nd rfl (by first | exact Or.inl rfl | exact Or.inr rfl) pe_int) h2)), ?_⟩
  walk_at "rn"
  obtain ⟨vb, tv⟩ := tn.v
  refine ⟨_, _, _, tv.ins, T.cl_Turn, T.na_Turn_event, _, rfl, ?_⟩
  have start : ∀ l zs, H l = none → firstQ t.event = zs → RunInv P w K Z bad0 H a dxt la lk l W dx ba rd ed dsk rs n t 0 (upd H l (.lst (zs.map V.str))) := fun l zs nl e => by
    have s1 : Same H (upd H l (.lst (zs.map V.str))) := Same.put (Same.refl H) nl
    refine ⟨zs, t, upd_same, tn.same s1, (wk.widen (bad' := badT bad0 a la lk l) fun b z => ?_).keep (fun b o nb e => s1 _ _ e) fun b z => ?_, Nat.zero_le _, Nat.zero_le _, by rw [e]; rfl, ?_, ?_, by omega, fun b o _ e => s1 _ _ e, so0.keep (bad := fun _ => False) (fun b o _ e => s1 _ _ e) fun _ z => z.elim⟩
    · rcases z with z | z | z | z | z
      · exact .inl (.inl z)
      · exact .inl (.inr (.inl z))
      · exact .inl (.inr (.inr (.inl z)))
      · exact .inl (.inr (.inr (.inr z)))
      · exact .inr (z ▸ nl)
    · obtain ⟨x1, x2, x3⟩ := tn.soft
      rcases z with z | rfl | rfl | rfl | rfl
      · exact (so0 b z).1
      · exact x1
      · exact x2
      · exact x3
      · exact .inl nl
    · rw [← e]
      intro z m
      cases ev : t.event with
      | none => rw [ev] at m; cases m
      | some y => rw [ev] at m; rw [List.mem_singleton.mp m]; exact hev y ev
    · rw [← e]
      cases t.event <;> simp [firstQ]
  cases ev : t.event with
  | none =>
    rw [if_pos (by rfl)]
    refine ⟨by decide +kernel, fun l nl => m2 l _ _ nl (start l [] nl (by rw [ev]; rfl))⟩
  | some y =>
    rw [if_neg (by rw [decide_eq_false]; exact Bool.false_ne_true; intro c; cases c)]
    refine ⟨_, _, _, tv.ins, T.cl_Turn, T.na_Turn_event, _, rfl, by decide +kernel, fun l nl => ?_⟩
    have := m2 l _ none nl (start l [y] nl (by rw [ev]; rfl))
    rw [ev]
    exact this
end
end Ld

set_option Elab.async false
set_option linter.all false
set_option maxRecDepth 100000
set_option maxHeartbeats 4000000
/-! Works: a turn. -/
namespace Ld
open PySem PySem.Spec PyProof.Rows L2
local macro_rules | `(tactic| walk_at "rd") => `(tactic| try simp only [tSeq, tNext, tRet, tRetN, tIfS, tTest, tB, tAnd, tOr, tNot, tAndV, tOrV, tNotV, tOp, tUn, tC, tVar, tCons, tNil, tCall, tCB, tAsg, tDrop, tChain, tIf, tYes, tBreak, tCont, tNever, tFld, sFld, sFldAug, tMeth, tMake, tRaiseF, tMkF, tM1, tOwn2S, tOwnIxS, tXf, tRevL, tMethS, tTup, tLst, tSl, tPart, tNoPart, tPar, tBM, tBM0, tLenSetT, tAug, gName, gTup, gCons, gNil, gStar2, gFld, gSub, rI0, rI, rU, rIxU, rIxS, rIn, rInU, rAddU, rSlU, rLenU, rTupU, rListU, rRep, rEqU_ss, rEqU_ii, rEqU_bb, rEqU_r, rNeU_ss, rNeU_ii, rNeU_bb, rNeU_r, cxOf, L2.start, wipe, List.map_cons, List.map_nil, List.length_cons, List.length_nil, List.replicate, List.cons_append, List.nil_append, List.append_nil, Nat.reduceSub, Nat.reduceAdd, List.getElem?_cons_zero, List.getElem?_cons_succ, List.set_cons_zero, List.set_cons_succ, Option.some.injEq, exists_eq_left', exists_eq_left, exists_eq, exists_and_left, V.bl.injEq, V.int.injEq, V.str.injEq, V.ref.injEq, V.ty.injEq, reduceCtorEq, false_and, and_false, exists_false, false_or, or_false, true_and, and_true, if_true, if_false, Bool.false_eq_true, ite_true, ite_false, reduceIte, decide_true, decide_false, Bool.not_true, Bool.not_false, Bool.not_eq_true, Bool.true_and, Bool.false_and, Bool.and_true, Bool.and_false, List.cons.injEq, and_assoc])
local macro_rules | `(tactic| walk_at "rn") => `(tactic| try simp only [tSeq, tNext, tRet, tRetN, tIfS, tTest, tB, tAnd, tOr, tNot, tAndV, tOrV, tNotV, tOp, tUn, tC, tVar, tCons, tNil, tCall, tCB, tAsg, tDrop, tChain, tIf, tYes, tBreak, tCont, tNever, tFld, sFld, sFldAug, tMeth, tMake, tRaiseF, tMkF, tM1, tOwn2S, tOwnIxS, tXf, tRevL, tMethS, tCallS, tMethK1, tDNewK, tRevT, Ends.cut, tDGet, rNotN, tNGet, sNPut, tNNew, tTup, tLst, tSl, tPart, tNoPart, tPar, tBM, tBM0, tLenSetT, tAug, gName, gTup, gCons, gNil, gStar2, gFld, gSub, rI0, rI, rU, rAddU_ii, tFor_rng, tLc_rng, rRep, rEqU_ss, rEqU_ii, rEqU_bb, rEqU_r, rNeU_ss, rNeU_ii, rNeU_bb, rNeU_r, cxOf, L2.start, wipe, List.map_cons, List.map_nil, List.length_cons, List.length_nil, List.replicate, List.cons_append, List.nil_append, List.append_nil, Nat.reduceSub, Nat.reduceAdd, List.getElem?_cons_zero, List.getElem?_cons_succ, List.set_cons_zero, List.set_cons_succ, Option.some.injEq, exists_eq_left', exists_eq_left, exists_eq, exists_and_left, V.bl.injEq, V.int.injEq, V.str.injEq, V.ref.injEq, V.ty.injEq, reduceCtorEq, false_and, and_false, exists_false, false_or, or_false, true_and, and_true, if_true, if_false, Bool.false_eq_true, ite_true, ite_false, reduceIte, decide_true, decide_false, Bool.not_true, Bool.not_false, Bool.not_eq_true, Bool.true_and, Bool.false_and, Bool.and_true, Bool.and_false, List.cons.injEq, and_assoc])
local macro_rules | `(tactic| walk_at "lay") => `(tactic| (apply lay_new; intro l h qq s n e; rw [← qq]; clear qq))
section
variable {P : Program} {w : World} {K : PySem.W.Frag} {mg : Str → Option Value} {base : Heap} {Z : Ad}
abbrev noBad : Addr → Prop := fun _ => False
def spWRun (P : Program) (w : World) (K : PySem.W.Frag) (Z : Ad) : Sp := fun vs H Q _ => ∃ bad W dx ba rd ed dsk rs n e v t, vs = [.ref W, evV e, v] ∧ WkAt P w K Z H W dx ba rd ed dsk rs bad n ∧ TkAt H v t ∧ (∀ z, e = some z → z ∈ eventsS) ∧ n < 90000 ∧ SoftAll bad H ∧
  ∀ H' a dxt la lk, H la = none → H lk = none → Keep (fun b => b = ed) H H' → TnAt Z.Turn H' a dxt la lk (runT (effT rs) e t) → WkAt P w K Z H' W dx ba rd ed dsk rs bad (n + 50) → Q (.ref a) H'
theorem m_Works_run (T : TX P K mg Z) : MethOk P w K mg base Z.Works "run" ["self", "event", "ticket"] 10 (spWRun P w K Z) := by
  refine T.mt_Works_run.ok T.cl_Works sc_Works_run (by rintro _ _ _ _ ⟨_, _, _, _, _, _, _, _, _, _, _, _, rfl, _⟩; rfl) fun f cdv A outer s H vs Q E hr h => ?_
  obtain ⟨bad, W, dx, ba, rd, ed, dsk, rs, n, e, v, t, rfl, wk, hv, he, hn, so, q⟩ := h
  refine ⟨_, (pss_cons (ps_set (i := 3) sc_Works_run.nd rfl (by first | exact Or.inl rfl | exact Or.inr rfl) (pe_makeD (mk_Turn T) hr rfl passL (pa_cons (pv 1) (pa_cons (pv 2) pa_nil)))) (pss_cons (ps_expr (pe_methD (m_Turn_run T) hr (pv 3) passL (pa_cons (pv 0) pa_nil))) (pss_one (ps_ret (pv 3))))), ?_⟩
  walk_at "rn"
  intro x dxt nx ndx nxd
  have s1 : Same H (upd (upd H dxt (.own x)) x (.ins Z.Turn dxt [])) := fun b o eb => by
    rw [upd_ne (ne_of_none eb nx), upd_ne (ne_of_none eb ndx)]
    exact eb
  generalize eG : upd (upd H dxt (.own x)) x (.ins Z.Turn dxt []) = H1 at s1 ⊢
  have x1 : H1 x = some (.ins Z.Turn dxt []) := by rw [← eG]; exact upd_same
  have hv1 : TkAt H1 v t := by obtain ⟨b, rfl, hb⟩ := hv; exact ⟨b, rfl, s1 _ _ hb⟩
  refine ⟨x, dxt, e, v, t, rfl, x1, hv1, fun H2 la lk k2 nla nlk tn2 => ⟨rfl, ?_⟩⟩
  have back : ∀ b, H1 b = none → H b = none := fun b z => by
    cases eb : H b with
    | none => rfl
    | some o => rw [s1 _ _ eb] at z; cases z
  have fla := back _ nla
  have flk := back _ nlk
  have s2 : Same H H2 := fun b o eb => k2 b o (ne_of_none eb nx) (s1 _ _ eb)
  have wk2 : WkAt P w K Z H2 W dx ba rd ed dsk rs (fun b => bad b ∨ b = x ∨ b = la ∨ b = lk) n := (wk.widen (bad' := fun b => bad b ∨ b = x ∨ b = la ∨ b = lk) fun b z => (by
    rcases z with z | rfl | rfl | rfl
    · exact .inl z
    · exact .inr nx
    · exact .inr fla
    · exact .inr flk)).keep (fun b o _ eb => s2 _ _ eb) fun b z => (by
    rcases z with z | rfl | rfl | rfl
    · exact (so b z).1
    · exact .inl nx
    · exact .inl fla
    · exact .inl flk)
  have so2 : SoftAll bad H2 := so.keep (bad := fun _ => False) (fun b o _ e => s2 _ _ e) fun _ z => z.elim
  obtain ⟨vb, tv2⟩ := tn2.v
  refine ⟨_, _, tv2.ins, rfl, bad, x, dxt, la, lk, tnNew e t, W, dx, ba, rd, ed, dsk, rs, n, rfl, tn2, wk2, he, hn, so2, by simp [tnNew], fun H3 lk' nk k3 tn3 wk3 => ?_⟩
  have flk' : H lk' = none := by
    cases eb : H lk' with
    | none => rfl
    | some o => rw [s2 _ _ eb] at nk; cases nk
  refine q H3 x dxt la lk' fla flk' (fun b o nb eb => k3 b o (fun z => ?_) (s2 _ _ eb)) tn3 (wk3.widen fun b z => .inl (.inl z))
  rcases z with z | z | z | z
  · exact ne_of_none eb nx z
  · exact ne_of_none eb fla z
  · exact ne_of_none eb flk z
  · exact nb z
def tkV (K : PySem.W.Frag) (H : Hp) (v : V) : Option Tk → Prop
  | none => v = .non
  | some t => TkAt H v t
def spBegun (P : Program) (w : World) (K : PySem.W.Frag) (Z : Ad) : Sp := fun vs H Q _ => ∃ bad W dx ba rd ed dsk rs n tk v vd d, vs = [.ref W, v, vd] ∧ WkAt P w K Z H W dx ba rd ed dsk rs bad n ∧ tkV K H v tk ∧ Dp K H vd d ∧ DeedIs dsk d ∧
  ∀ H' p v2, Same H H' → H' p = some (.tup [evV (begunT dsk tk d).1, v2]) → TkAt H' v2 (begunT dsk tk d).2 → Q (.ref p) H'
theorem m_Works_begun (T : TX P K mg Z) : MethOk P w K mg base Z.Works "begun" ["self", "ticket", "deed"] 4 (spBegun P w K Z) := by
  refine T.mt_Works_begun.ok T.cl_Works sc_Works_begun (by rintro _ _ _ _ ⟨_, _, _, _, _, _, _, _, _, _, _, _, _, rfl, _⟩; rfl) fun f cdv A outer s H vs Q E hr h => ?_
  obtain ⟨bad, W, dx, ba, rd, ed, dsk, rs, n, tk, v, vd, d, rfl, wk, hv, hd, di, q⟩ := h
  obtain ⟨t1, h1, m1⟩ : ∃ u, PSs (cxOf (L2.CX P w) P w K mg base ["self", "ticket", "deed", "status", "desk", "answered", "days", "marked", "word", "event"] "Works.begun" (defScope s_Works_begun) f cdv A outer s H E) ((defBody s_Works_begun).drop 1) u ∧ ∀ (H1 : Hp) (v1 : V) (o1 o2 o3 o4 o5 o6 o7 o8 : Option V), Same H H1 → TkAt H1 v1 (tk.getD ⟨"new", dsk.headD ("" : Str), false, 0, false⟩) → u { nx := fun _ H' => Q .non H', rt := Q } [some (.ref W), some v1, some vd, o1, o2, o3, o4, o5, o6, o7] H1 := by
    refine ⟨_, (pss_cons (ps_asg (pv 1) (kTup (K := K) (n := 5) rfl (pgs_cons (pg_name (i := 3) sc_Works_begun.nd rfl (by first | exact Or.inl rfl | exact Or.inr rfl)) (pgs_cons (pg_name (i := 4) sc_Works_begun.nd rfl (by first | exact Or.inl rfl | exact Or.inr rfl)) (pgs_cons (pg_name (i := 5) sc_Works_begun.nd rfl (by first | exact Or.inl rfl | exact Or.inr rfl)) (pgs_cons (pg_name (i := 6) sc_Works_begun.nd rfl (by first | exact Or.inl rfl | exact Or.inr rfl)) (pgs_cons (pg_name (i := 7) sc_Works_begun.nd rfl (by first | exact Or.inl rfl | exact Or.inr rfl)) pgs_nil))))))) (pss_cons (ps_set (i := 8) sc_Works_begun.nd rfl (by first | exact Or.inl rfl | exact Or.inr rfl) (pe_ix (kIx (K := K)) (pv 2) pe_int (fun _ _ => rfl))) (pss_cons (ps_if (pt_cmpR (kEq (K := K) hr.units) (pv 8) pe_str (nomark _)) (pss_one (ps_ret (pe_tup (pa_cons pe_str (pa_cons (pe_tup (pa_cons (pv 3) (pa_cons (pv 4) (pa_cons pe_bl (pa_cons pe_int (pa_cons (pv 7) pa_nil)))))) pa_nil))))) pss_nil) (pss_cons (ps_if (pt_cmpR (kEq (K := K) hr.units) (pv 8) pe_str (nomark _)) (pss_one (ps_ret (pe_tup (pa_cons pe_str (pa_cons (pe_tup (pa_cons (pv 3) (pa_cons (pv 4) (pa_cons pe_bl (pa_cons pe_int (pa_cons (pv 7) pa_nil)))))) pa_nil))))) pss_nil) (pss_cons (ps_if (pt_cmpR (kEq (K := K) hr.units) (pv 8) pe_str (nomark _)) (pss_one (ps_ret (pe_tup (pa_cons pe_str (pa_cons (pe_tup (pa_cons (pv 3) (pa_cons (pv 4) (pa_cons (pv 5) (pa_cons (pe_op (kAdd (K := K)) (pv 6) pe_int) (pa_cons (pv 7) pa_nil)))))) pa_nil))))) pss_nil) (pss_cons (ps_if (pt_cmpR (kEq (K := K) hr.units) (pv 8) pe_str (nomark _)) (pss_cons (ps_set (i := 9) sc_Works_begun.nd rfl (by first | exact Or.inl rfl | exact Or.inr rfl) (pe_ifExp (pt_cmpR (kNe (K := K) hr.units) (pv 4) (pe_ix (kIx (K := K)) (pv 2) pe_int (fun _ _ => rfl)) (nomark _)) pe_str pe_non)) (pss_one (ps_ret (pe_tup (pa_cons (pv 9) (pa_cons (pe_tup (pa_cons (pv 3) (pa_cons (pe_ix (kIx (K := K)) (pv 2) pe_int (fun _ _ => rfl)) (pa_cons (pv 5) (pa_cons (pv 6) (pa_cons (pv 7) pa_nil)))))) pa_nil)))))) pss_nil) (pss_cons (ps_set (i := 9) sc_Works_begun.nd rfl (by first | exact Or.inl rfl | exact Or.inr rfl) (pe_ifExp (pt_cmpR (kNe (K := K) hr.units) (pv 3) (pe_ix (kIx (K := K)) (pv 2) pe_int (fun _ _ => rfl)) (nomark _)) pe_str pe_non)) (pss_one (ps_ret (pe_tup (pa_cons (pv 9) (pa_cons (pe_tup (pa_cons (pe_ix (kIx (K := K)) (pv 2) pe_int (fun _ _ => rfl)) (pa_cons (pv 4) (pa_cons (pv 5) (pa_cons (pv 6) (pa_cons (pv 7) pa_nil)))))) pa_nil)))))))))))), ?_⟩
    intro H1 v1 o1 o2 o3 o4 o5 o6 o7 o8 s1 hv1
    walk_at "rn"
    obtain ⟨b, rfl, hb⟩ := hv1
    refine ⟨b, rfl, _, .inl (.inl hb), rfl, _, _, rfl, _, _, rfl, _, _, rfl, _, _, rfl, _, _, rfl, rfl, ?_⟩
    have hd1 := dpSame s1 hd
    generalize eT : tk.getD ⟨"new", dsk.headD ("" : Str), false, 0, false⟩ = t0 at hb
    cases di with
    | letter =>
      obtain ⟨p1, rfl, hs1⟩ := sh_s hd1
      refine ix_t hs1 rfl ?_
      walk_at "rn"
      have eB : begunT dsk tk (.tuple [.str "letter"]) = (some ("letter" : Str), { t0 with answered := false, days := 0 }) := by
        unfold begunT
        rw [eT]
        rfl
      rw [eB] at q
      refine ⟨by decide +kernel, ?_⟩
      walk_at "lay"
      rename_i p2 H2 s2 n2 e2
      refine ⟨by decide +kernel, ?_⟩
      walk_at "lay"
      rename_i p3 H3 s3 n3 e3
      exact q H3 p3 _ (s1.trans (s2.trans s3)) e3 ⟨p2, rfl, s3 _ _ e2⟩
    | answer =>
      obtain ⟨p1, rfl, hs1⟩ := sh_s hd1
      refine ix_t hs1 rfl ?_
      walk_at "rn"
      rw [if_neg (by decide +kernel)]
      have eB : begunT dsk tk (.tuple [.str "answer"]) = (some ("answer" : Str), { t0 with answered := true, days := 0 }) := by
        unfold begunT
        rw [eT]
        rfl
      rw [eB] at q
      refine ⟨by decide +kernel, ?_⟩
      walk_at "lay"
      rename_i p2 H2 s2 n2 e2
      refine ⟨by decide +kernel, ?_⟩
      walk_at "lay"
      rename_i p3 H3 s3 n3 e3
      exact q H3 p3 _ (s1.trans (s2.trans s3)) e3 ⟨p2, rfl, s3 _ _ e2⟩
    | day =>
      obtain ⟨p1, rfl, hs1⟩ := sh_s hd1
      refine ix_t hs1 rfl ?_
      walk_at "rn"
      rw [if_neg (by decide +kernel), if_neg (by decide +kernel)]
      have eB : begunT dsk tk (.tuple [.str "day"]) = (some ("day" : Str), { t0 with days := t0.days + 1 }) := by
        unfold begunT
        rw [eT]
        rfl
      rw [eB] at q
      refine ⟨by decide +kernel, ?_⟩
      walk_at "lay"
      rename_i p2 H2 s2 n2 e2
      refine ⟨by decide +kernel, ?_⟩
      walk_at "lay"
      rename_i p3 H3 s3 n3 e3
      exact q H3 p3 _ (s1.trans (s2.trans s3)) e3 ⟨p2, rfl, s3 _ _ e2⟩
    | hand z hz =>
      obtain ⟨p1, rfl, hs1⟩ := sh_ss hd1
      refine ix_t hs1 rfl ?_
      walk_at "rn"
      rw [if_neg (by decide +kernel), if_neg (by decide +kernel), if_neg (by decide +kernel)]
      refine ix_t hs1 rfl ?_
      walk_at "rn"
      by_cases c : t0.desk = z
      · rw [if_neg (by simp [c])]
        refine ix_t hs1 rfl ?_
        have eB : begunT dsk tk (.tuple [.str "hand", .str z]) = (none, { t0 with desk := z }) := by
          unfold begunT
          rw [eT]
          show ((if t0.desk = z then none else _), _) = _
          rw [if_pos c]
        rw [eB] at q
        refine ⟨by decide +kernel, ?_⟩
        walk_at "lay"
        rename_i p2 H2 s2 n2 e2
        refine ⟨by decide +kernel, ?_⟩
        walk_at "lay"
        rename_i p3 H3 s3 n3 e3
        exact q H3 p3 _ (s1.trans (s2.trans s3)) e3 ⟨p2, rfl, s3 _ _ e2⟩
      · rw [if_pos (by simp [c])]
        refine ix_t hs1 rfl ?_
        have eB : begunT dsk tk (.tuple [.str "hand", .str z]) = (some ("moved" : Str), { t0 with desk := z }) := by
          unfold begunT
          rw [eT]
          show ((if t0.desk = z then none else _), _) = _
          rw [if_neg c]
        rw [eB] at q
        refine ⟨by decide +kernel, ?_⟩
        walk_at "lay"
        rename_i p2 H2 s2 n2 e2
        refine ⟨by decide +kernel, ?_⟩
        walk_at "lay"
        rename_i p3 H3 s3 n3 e3
        exact q H3 p3 _ (s1.trans (s2.trans s3)) e3 ⟨p2, rfl, s3 _ _ e2⟩
    | set z hz =>
      obtain ⟨p1, rfl, hs1⟩ := sh_ss hd1
      refine ix_t hs1 rfl ?_
      walk_at "rn"
      rw [if_neg (by decide +kernel), if_neg (by decide +kernel), if_neg (by decide +kernel), if_neg (by decide +kernel)]
      refine ix_t hs1 rfl ?_
      walk_at "rn"
      by_cases c : t0.status = z
      · rw [if_neg (by simp [c])]
        refine ix_t hs1 rfl ?_
        have eB : begunT dsk tk (.tuple [.str "set", .str z]) = (none, { t0 with status := z }) := by
          unfold begunT
          rw [eT]
          show ((if t0.status = z then none else _), _) = _
          rw [if_pos c]
        rw [eB] at q
        refine ⟨by decide +kernel, ?_⟩
        walk_at "lay"
        rename_i p2 H2 s2 n2 e2
        refine ⟨by decide +kernel, ?_⟩
        walk_at "lay"
        rename_i p3 H3 s3 n3 e3
        exact q H3 p3 _ (s1.trans (s2.trans s3)) e3 ⟨p2, rfl, s3 _ _ e2⟩
      · rw [if_pos (by simp [c])]
        refine ix_t hs1 rfl ?_
        have eB : begunT dsk tk (.tuple [.str "set", .str z]) = (some ("status" : Str), { t0 with status := z }) := by
          unfold begunT
          rw [eT]
          show ((if t0.status = z then none else _), _) = _
          rw [if_neg c]
        rw [eB] at q
        refine ⟨by decide +kernel, ?_⟩
        walk_at "lay"
        rename_i p2 H2 s2 n2 e2
        refine ⟨by decide +kernel, ?_⟩
        walk_at "lay"
        rename_i p3 H3 s3 n3 e3
        exact q H3 p3 _ (s1.trans (s2.trans s3)) e3 ⟨p2, rfl, s3 _ _ e2⟩
  refine ⟨_, (pss_cons (ps_if (pt_cmpR op_isN (pv 1) pe_non (nomark _)) (pss_one (ps_set (i := 1) sc_Works_begun.nd rfl (by first | exact Or.inl rfl | exact Or.inr rfl) (pe_tup (pa_cons pe_str (pa_cons (pe_ix (kIx (K := K)) (pe_methD0 (m_Book_desks T) hr (kFld (K := K) (pv 0) rfl) passL) pe_int (fun _ _ => rfl)) (pa_cons pe_bl (pa_cons pe_int (pa_cons pe_bl pa_nil)))))))) pss_nil) h1), ?_⟩
  walk_at "rn"
  cases tk with
  | some t =>
    obtain ⟨b, rfl, hb⟩ := id hv
    rw [if_neg (by rw [decide_eq_false]; exact Bool.false_ne_true; intro c; cases c)]
    exact m1 H _ none none none none none none none none (Same.refl H) hv
  | none =>
    cases (show v = .non from hv)
    rw [if_pos (by rfl)]
    obtain ⟨a', dx', vd', vr', ea, ha, hb1, hb2, g⟩ := id wk.bk
    cases ea
    refine ⟨_, _, _, wk.ins, T.cl_Works, T.na_Works_rulebook, _, rfl, _, rfl, _, _, ha, rfl, ?_⟩
    refine ⟨_, dsk, rs, rfl, wk.bk, fun v3 hv3 => ?_⟩
    have ne : 1 ≤ dsk.length := by
      have h := g.1
      unfold areDesksD at h
      simp only [Bool.and_eq_true, decide_eq_true_eq, List.length_map] at h
      exact h.1.1.1
    obtain ⟨x0, r0, rfl⟩ : ∃ x r, dsk = x :: r := by
      cases dsk with
      | nil => simp at ne
      | cons x r => exact ⟨x, r, rfl⟩
    refine ix_dp (i := 0) hv3 rfl fun v4 hv4 => ?_
    cases dp_str hv4
    refine ⟨by decide +kernel, ?_⟩
    walk_at "lay"
    rename_i p2 H2 s2 n2 e2
    exact m1 H2 _ none none none none none none none none s2 ⟨p2, rfl, e2⟩
end
end Ld

set_option Elab.async false
set_option linter.all false
set_option maxRecDepth 100000
set_option maxHeartbeats 4000000
/-! Works: made of a book; a turn. -/
namespace Ld
open PySem PySem.Spec PyProof.Rows L2
local macro_rules | `(tactic| walk_at "rd") => `(tactic| try simp only [tSeq, tNext, tRet, tRetN, tIfS, tTest, tB, tAnd, tOr, tNot, tAndV, tOrV, tNotV, tOp, tUn, tC, tVar, tCons, tNil, tCall, tCB, tAsg, tDrop, tChain, tIf, tYes, tBreak, tCont, tNever, tFld, sFld, sFldAug, tMeth, tMake, tRaiseF, tMkF, tM1, tOwn2S, tOwnIxS, tXf, tRevL, tMethS, tTup, tLst, tSl, tPart, tNoPart, tPar, tBM, tBM0, tLenSetT, tAug, gName, gTup, gCons, gNil, gStar2, gFld, gSub, rI0, rI, rU, rIxU, rIxS, rIn, rInU, rAddU, rSlU, rLenU, rTupU, rListU, rRep, rEqU_ss, rEqU_ii, rEqU_bb, rEqU_r, rNeU_ss, rNeU_ii, rNeU_bb, rNeU_r, cxOf, L2.start, wipe, List.map_cons, List.map_nil, List.length_cons, List.length_nil, List.replicate, List.cons_append, List.nil_append, List.append_nil, Nat.reduceSub, Nat.reduceAdd, List.getElem?_cons_zero, List.getElem?_cons_succ, List.set_cons_zero, List.set_cons_succ, Option.some.injEq, exists_eq_left', exists_eq_left, exists_eq, exists_and_left, V.bl.injEq, V.int.injEq, V.str.injEq, V.ref.injEq, V.ty.injEq, reduceCtorEq, false_and, and_false, exists_false, false_or, or_false, true_and, and_true, if_true, if_false, Bool.false_eq_true, ite_true, ite_false, reduceIte, decide_true, decide_false, Bool.not_true, Bool.not_false, Bool.not_eq_true, Bool.true_and, Bool.false_and, Bool.and_true, Bool.and_false, List.cons.injEq, and_assoc])
local macro_rules | `(tactic| walk_at "rn") => `(tactic| try simp only [tSeq, tNext, tRet, tRetN, tIfS, tTest, tB, tAnd, tOr, tNot, tAndV, tOrV, tNotV, tOp, tUn, tC, tVar, tCons, tNil, tCall, tCB, tAsg, tDrop, tChain, tIf, tYes, tBreak, tCont, tNever, tFld, sFld, sFldAug, tMeth, tMake, tRaiseF, tMkF, tM1, tOwn2S, tOwnIxS, tXf, tRevL, tMethS, tCallS, tMethK1, tDNewK, tRevT, Ends.cut, tDGet, rNotN, tNGet, sNPut, tNNew, tTup, tLst, tSl, tPart, tNoPart, tPar, tBM, tBM0, tLenSetT, tAug, gName, gTup, gCons, gNil, gStar2, gFld, gSub, rI0, rI, rU, rAddU_ii, tFor_rng, tLc_rng, rRep, rEqU_ss, rEqU_ii, rEqU_bb, rEqU_r, rNeU_ss, rNeU_ii, rNeU_bb, rNeU_r, cxOf, L2.start, wipe, List.map_cons, List.map_nil, List.length_cons, List.length_nil, List.replicate, List.cons_append, List.nil_append, List.append_nil, Nat.reduceSub, Nat.reduceAdd, List.getElem?_cons_zero, List.getElem?_cons_succ, List.set_cons_zero, List.set_cons_succ, Option.some.injEq, exists_eq_left', exists_eq_left, exists_eq, exists_and_left, V.bl.injEq, V.int.injEq, V.str.injEq, V.ref.injEq, V.ty.injEq, reduceCtorEq, false_and, and_false, exists_false, false_or, or_false, true_and, and_true, if_true, if_false, Bool.false_eq_true, ite_true, ite_false, reduceIte, decide_true, decide_false, Bool.not_true, Bool.not_false, Bool.not_eq_true, Bool.true_and, Bool.false_and, Bool.and_true, Bool.and_false, List.cons.injEq, and_assoc])
local macro_rules | `(tactic| walk_at "lay") => `(tactic| (apply lay_new; intro l h qq s n e; rw [← qq]; clear qq))
section
variable {P : Program} {w : World} {K : PySem.W.Frag} {mg : Str → Option Value} {base : Heap} {Z : Ad}
theorem begunT_ev {dsk : List Str} {tk : Option Tk} {d : PyData} (h : DeedIs dsk d) : ∀ z, (begunT dsk tk d).1 = some z → z ∈ eventsS := by
  intro z e
  cases h with
  | letter => cases e; decide +kernel
  | answer => cases e; decide +kernel
  | day => cases e; decide +kernel
  | hand y hy =>
    unfold begunT at e
    dsimp only at e
    rw [if_pos (by decide +kernel)] at e
    dsimp only at e
    split at e
    · cases e
    · cases e; decide +kernel
  | set y hy =>
    unfold begunT at e
    dsimp only at e
    rw [if_neg (by decide +kernel)] at e
    dsimp only at e
    split at e
    · cases e
    · cases e; decide +kernel
def spWTurn (P : Program) (w : World) (K : PySem.W.Frag) (Z : Ad) : Sp := fun vs H Q _ => ∃ bad W dx ba rd ed dsk rs n tk v vd d, vs = [.ref W, v, vd] ∧ WkAt P w K Z H W dx ba rd ed dsk rs bad n ∧ tkV K H v tk ∧ Dp K H vd d ∧ DeedIs dsk d ∧ n < 90000 ∧ SoftAll bad H ∧
  ∀ H' a dxt la lk, H la = none → H lk = none → Keep (fun b => b = ed) H H' → TnAt Z.Turn H' a dxt la lk (turnT (effT rs) dsk tk d) → WkAt P w K Z H' W dx ba rd ed dsk rs bad (n + 50) → Q (.ref a) H'
theorem m_Works_turn (T : TX P K mg Z) : MethOk P w K mg base Z.Works "turn" ["self", "ticket", "deed"] 12 (spWTurn P w K Z) := by
  refine T.mt_Works_turn.ok T.cl_Works sc_Works_turn (by rintro _ _ _ _ ⟨_, _, _, _, _, _, _, _, _, _, _, _, _, rfl, _⟩; rfl) fun f cdv A outer s H vs Q E hr h => ?_
  obtain ⟨bad, W, dx, ba, rd, ed, dsk, rs, n, tk, v, vd, d, rfl, wk, hv, hd, di, hn, so, q⟩ := h
  refine ⟨_, (pss_cons (ps_asg (pe_methD (m_Works_begun T) hr (pv 0) passL (pa_cons (pv 1) (pa_cons (pv 2) pa_nil))) (kTup (K := K) (n := 2) rfl (pgs_cons (pg_name (i := 3) sc_Works_turn.nd rfl (by first | exact Or.inl rfl | exact Or.inr rfl)) (pgs_cons (pg_name (i := 4) sc_Works_turn.nd rfl (by first | exact Or.inl rfl | exact Or.inr rfl)) pgs_nil)))) (pss_one (ps_ret (pe_methD (m_Works_run T) hr (pv 0) passL (pa_cons (pv 3) (pa_cons (pv 4) pa_nil)))))), ?_⟩
  walk_at "rn"
  refine ⟨_, _, wk.ins, rfl, bad, W, dx, ba, rd, ed, dsk, rs, n, tk, v, vd, d, rfl, wk, hv, hd, di, fun H1 p v2 s1 e1 hv2 => ?_⟩
  have wk1 : WkAt P w K Z H1 W dx ba rd ed dsk rs bad n := wk.keep (fun b o _ e => s1 _ _ e) fun b z => (so b z).1
  have so1 : SoftAll bad H1 := so.keep (bad := fun _ => False) (fun b o _ e => s1 _ _ e) fun _ z => z.elim
  refine ⟨p, rfl, _, .inl (.inl e1), rfl, _, _, rfl, _, _, rfl, rfl, _, _, wk1.ins, rfl, ?_⟩
  have back : ∀ b, H1 b = none → H b = none := fun b z => by
    cases eb : H b with
    | none => rfl
    | some o => rw [s1 _ _ eb] at z; cases z
  exact ⟨bad, W, dx, ba, rd, ed, dsk, rs, n, (begunT dsk tk d).1, v2, (begunT dsk tk d).2, rfl, wk1, hv2, begunT_ev di, hn, so1, fun H2 a dxt la lk n1 n2 k2 t2 wk2 => q H2 a dxt la lk (back _ n1) (back _ n2) (fun b o nb e => k2 b o nb (s1 _ _ e)) t2 wk2⟩
/-- what stands of a dict of empty lists while it is made -/
def RaAt (H : Hp) (D : Addr) (es : List Str) (lf : Str → Addr) : Prop := ∃ ents, H D = some (.dK ents) ∧ ents.length ≤ es.length ∧ (∀ e ∈ es, valV ents (.inr e) = some (V.ref (lf e)) ∧ H (lf e) = some (.lst [])) ∧ ∀ e ∈ es, ∀ e' ∈ es, lf e = lf e' → e = e'
theorem putK_len (kvs : List (Key × V)) (k : Key) (v : V) : (putK kvs k v).length ≤ kvs.length + 1 := by
  unfold putK
  split
  · simp
  · simp
def wkF (xs : List (Str × V)) : List (Str × V) := xs
def spWorks (P : Program) (w : World) (K : PySem.W.Frag) (Z : Ad) : Sp := fun vs H Q _ => ∃ W dx ba dsk rs, vs = [.ref W, .ref ba] ∧ H W = some (.ins Z.Works dx []) ∧ BookIs K Z.Book H (.ref ba) dsk rs ∧ ∀ H' rd ed, Keep (fun b => b = W) H H' → H ed = none → WkAt P w K Z H' W dx ba rd ed dsk rs noBad 0 → Q .non H'
theorem mk_Works (T : TX P K mg Z) : MakeOk P w K mg base Z.Works "Works" ["self", "book"] 3 (spWorks P w K Z) := by
  refine T.in_Works.ok sc_Works_init (by rintro _ _ _ _ ⟨_, _, _, _, _, rfl, _⟩; rfl) fun f cdv A outer s H vs Q E hr h => ?_
  obtain ⟨W, dx, ba, dsk, rs, rfl, hW, bk, q⟩ := h
  refine ⟨_, (pss_cons (ps_fld (pv 0) (pv 1) rfl) (pss_cons (ps_fld (pv 0) (pe_dc (own := [("event", 2)]) rfl sc_Works_init.nd (kSeq (K := K) (pe_globR rfl T.g_EVENTS)) (blkOk_by (N := ["self", "book", "event", "index", "tests", "actions"]) (sc := defScope s_Works_init) (own := [("event", 2)]) (by decide +kernel)) (fun _ _ _ _ _ => (pg_name (i := 2) sc_Works_init.nd rfl (by first | exact Or.inl rfl | exact Or.inr rfl))) (fun _ _ _ _ _ => pts_nil) (fun _ _ _ _ _ => (pv 2)) (fun _ _ _ _ _ => (pe_lst pa_nil))) rfl) (pss_cons (ps_for (passes_of rfl) rfl (kEnum (K := K) rfl T.b_enumerate (pa_cons (pe_methD0 (m_Book_rules T) hr (pv 1) passL) pa_nil)) (kTup (K := K) (n := 2) rfl (pgs_cons (pg_name (i := 3) sc_Works_init.nd rfl (by first | exact Or.inl rfl | exact Or.inr rfl)) (pgs_cons (kTup (K := K) (n := 3) rfl (pgs_cons (pg_name (i := 2) sc_Works_init.nd rfl (by first | exact Or.inl rfl | exact Or.inr rfl)) (pgs_cons (pg_name (i := 4) sc_Works_init.nd rfl (by first | exact Or.inl rfl | exact Or.inr rfl)) (pgs_cons (pg_name (i := 5) sc_Works_init.nd rfl (by first | exact Or.inl rfl | exact Or.inr rfl)) pgs_nil)))) pgs_nil))) (pss_one (ps_expr (kBm (K := K) PySem.F.plainAttrs_list PySem.F.slot_list_append PySem.F.type_list_append mt_append (pe_dget (hu_of hr) (kFld (K := K) (pv 0) rfl) (pv 2) (fun _ _ => by with_unfolding_all rfl)) (pa_cons (pe_tup (pa_cons (pv 3) (pa_cons (pv 4) (pa_cons (pv 5) pa_nil)))) pa_nil))))) (pss_one (ps_fld (pv 0) pe_dnewN rfl))))), ?_⟩
  walk_at "rn"
  refine ⟨_, _, _, hW, T.cl_Works, T.na_Works_rulebook, by simp, ?_⟩
  generalize eG1 : upd H W _ = H1
  have k1 : Keep (fun b => b = W) H H1 := fun b o nb e => by rw [← eG1, upd_ne nb]; exact e
  have w1 : H1 W = some (.ins Z.Works dx (wkF [("rulebook", V.ref ba)])) := by rw [← eG1]; exact upd_same
  obtain ⟨be, eb, hbe⟩ := dp_strs (ws := eventsS) (den_ref T.v_EVENTS H1)
  cases eb
  refine .inr (.inl ⟨_, rfl, ⟨_, hbe⟩, fun D nD => ?_⟩)
  refine dc_tup (xs := eventsS.map V.str) (fun i H' => Same H1 (H') ∧ ∃ lf, RaAt H' D (eventsS.take i) lf ∧ ∀ e ∈ eventsS.take i, H1 (lf e) = none) ?_ (fun i H' _ z => same_seqT z.1 hbe) ?_ ?_
  · exact ⟨Same.put (Same.refl H1) nD, fun _ => 0, ⟨[], upd_same, Nat.le_refl _, (fun e m => by simp at m), (fun e m => by simp at m)⟩, (fun e m => by simp at m)⟩
  · rintro i y H' hy ⟨s', lf, ⟨ents, r1, r2, r3, r4⟩, r5⟩
    rw [List.getElem?_map] at hy
    obtain ⟨ev, hev, rfl⟩ := Option.map_eq_some_iff.mp hy
    walk_at "rn"
    refine ⟨by decide +kernel, fun p np => ?_⟩
    have nD : D ≠ p := fun c => by rw [← c, r1] at np; cases np
    have hi : i < eventsS.length := by
      rcases Nat.lt_or_ge i eventsS.length with h | h
      · exact h
      · rw [List.getElem?_eq_none h] at hev; cases hev
    have tk : eventsS.take (i + 1) = eventsS.take i ++ [ev] := by rw [List.take_add_one, hev]; rfl
    have lt : (eventsS.take i).length = i := by rw [List.length_take]; omega
    have l6 : eventsS.length = 6 := rfl
    have H1D : ∀ b, H1 b ≠ none → b ≠ D := fun b e c => e (c ▸ (by assumption))
    have fp : H1 p = none := by
      cases e : H1 p with
      | none => rfl
      | some o => rw [s' _ _ e] at np; cases np
    refine ⟨ents, .inr ev, rfl, by rw [upd_ne nD]; exact r1, Nat.lt_of_le_of_lt (show ents.length ≤ 6 by omega) (by decide), fun b o e => ?_, fun e => if e = ev then p else lf e, ⟨_, upd_same, ?_, fun e m => ?_, fun e m e' m' h => ?_⟩, fun e m => ?_⟩
    · rw [upd_ne (ne_of_none e (by assumption)), upd_ne (ne_of_none e fp)]
      exact s' _ _ e
    · have := putK_len ents (.inr ev) (.ref p)
      rw [tk, List.length_append, List.length_singleton]
      omega
    · rw [valV_put]
      by_cases c : e = ev
      · subst c
        dsimp only
        rw [if_pos rfl, if_pos rfl, upd_ne (Ne.symm nD), upd_same]
        exact ⟨rfl, rfl⟩
      · rw [tk] at m
        have m : e ∈ eventsS.take i := (List.mem_append.mp m).elim id fun z => absurd (List.mem_singleton.mp z) c
        obtain ⟨a1, a2⟩ := r3 e m
        dsimp only
        rw [if_neg (fun z => c (by injection z)), if_neg c, a1]
        refine ⟨rfl, ?_⟩
        rw [upd_ne (fun z => by rw [z, r1] at a2; cases a2), upd_ne (ne_of_none a2 np)]
        exact a2
    · rw [tk] at m m'
      dsimp only at h
      have go : ∀ e, e ∈ eventsS.take i ++ [ev] → ¬ e = ev → e ∈ eventsS.take i := fun e m c => (List.mem_append.mp m).elim id fun z => absurd (List.mem_singleton.mp z) c
      by_cases c : e = ev
      · by_cases c' : e' = ev
        · rw [c, c']
        · rw [if_pos c, if_neg c'] at h
          have := (r3 e' (go _ m' c')).2
          rw [← h, np] at this
          cases this
      · by_cases c' : e' = ev
        · rw [if_neg c, if_pos c'] at h
          have := (r3 e (go _ m c)).2
          rw [h, np] at this
          cases this
        · rw [if_neg c, if_neg c'] at h
          exact r4 e (go _ m c) e' (go _ m' c') h
    · dsimp only
      by_cases c : e = ev
      · rw [if_pos c]; exact fp
      · rw [if_neg c]
        rw [tk] at m
        exact r5 e ((List.mem_append.mp m).elim id fun z => absurd (List.mem_singleton.mp z) c)
  · rintro H2 ⟨s2, lf, ra, fr⟩
    rw [show eventsS.take (eventsS.map V.str).length = eventsS by rw [List.length_map, List.take_length]] at ra fr
    obtain ⟨ents, r1, r2, r3, r4⟩ := ra
    have w2 := s2 _ _ w1
    refine ⟨_, _, _, w2, T.cl_Works, T.na_Works__rules_at, by simp [wkF], ?_⟩
    generalize eG3 : upd H2 W _ = H3
    have k23 : Keep (fun b => b = W) H2 H3 := fun b o nb e => by rw [← eG3, upd_ne nb]; exact e
    have w3 : H3 W = some (.ins Z.Works dx (wkF [("rulebook", V.ref ba), ("_rules_at", V.ref D)])) := by rw [← eG3]; exact upd_same
    have nW : ∀ b o, H2 b = some o → (∀ C dx fs, o ≠ .ins C dx fs) → b ≠ W := fun b o e n c => by
      rw [c, w2] at e
      injection e with e
      exact n _ _ _ e.symm
    have d3 : H3 D = some (.dK ents) := k23 _ _ (nW _ _ r1 fun _ _ _ => nofun) r1
    have f3 : ∀ e ∈ eventsS, H3 (lf e) = some (.lst []) := fun e m => k23 _ _ (nW _ _ (r3 e m).2 fun _ _ _ => nofun) (r3 e m).2
    have k03 : Keep (fun b => b = W) H H3 := fun b o nb e => k23 _ _ nb (s2 _ _ (k1 _ _ nb e))
    have fH : ∀ b, H1 b = none → H b = none := fun b z => by
      cases e : H b with
      | none => rfl
      | some o =>
        by_cases c : b = W
        · rw [c, w1] at z; cases z
        · rw [k1 _ _ c e] at z; cases z
    obtain ⟨a', dxb, vd, vr, ea, ha, hb1, hb2, g⟩ := id bk
    cases ea
    have nba : ba ≠ W := fun c => by
      rw [c, hW] at ha
      injection ha with ha
      injection ha with _ _ ha
      cases ha
    have tp3 : Tps K H H3 := tps_of k03 fun b z => .inr (.inr (.inl ⟨_, _, _, z ▸ hW⟩))
    have bk3 : BookIs K Z.Book H3 (.ref ba) dsk rs := bk.tps (fun o e => k03 _ _ nba e) tp3
    have soft : ∀ b, (∃ e ∈ eventsS, b = lf e) → Soft H3 b := fun b z => by
      obtain ⟨e, m, rfl⟩ := z
      exact .inr (.inl ⟨_, f3 e m⟩)
    have tpK : ∀ H', Keep (fun b => ∃ e ∈ eventsS, b = lf e) H3 H' → Tps K H3 H' := fun H' k => tps_of k soft
    have nl : ∀ b o, H3 b = some o → (∀ xs, o ≠ .lst xs) → ¬ ∃ e ∈ eventsS, b = lf e := fun b o e n z => by
      obtain ⟨y, m, rfl⟩ := z
      rw [f3 y m] at e
      injection e with e
      exact n _ e.symm
    refine for_en ?_
    walk_at "rn"
    refine ⟨_, _, k03 _ _ nba ha, rfl, _, dsk, rs, rfl, bk3, fun v hv => ?_⟩
    obtain ⟨ar, xs, rfl, hrs, hda⟩ := dp_tup hv
    have gd := (firstBad_none dsk rs 0 g.2).2
    have ln := dps_len hda
    refine forEnx hrs (fun i σ H' => (∃ o1 o2 o3 o4, σ = [some (.ref W), some (.ref ba), o1, o2, o3, o4]) ∧ Keep (fun b => ∃ e ∈ eventsS, b = lf e) H3 H' ∧ ∀ e ∈ eventsS, ∃ ys, H' (lf e) = some (.lst ys) ∧ ys.length ≤ i ∧ Paired (RuAt K H' dsk) ys (rulesAt e 0 (rs.take i))) ?_ ?_ ?_ ?_
    · exact ⟨⟨_, _, _, _, rfl⟩, fun b o _ e => e, fun e m => ⟨[], f3 e m, Nat.le_refl _, .nil⟩⟩
    · exact fun i σ H' _ z => (tpK _ z.2.1).t _ _ hrs
    · rintro i y σ H4 U e2 ⟨⟨o1, o2, o3, o4, rfl⟩, k4, ls⟩ nU
      obtain ⟨d, hd1, dt⟩ := dps_get hda e2
      have hi : i < rs.length := by
        rcases Nat.lt_or_ge i rs.length with h | h
        · exact h
        · rw [List.getElem?_eq_none h] at hd1; cases hd1
      obtain ⟨ev, ts, as, rfl, hev, lt, la, hts, has⟩ := rule_of (gd _ (List.mem_of_getElem? hd1))
      have tp4 := tpK _ k4
      have s5 : Same H4 (upd H4 U (.tup [.int (i : Nat), y])) := Same.put (Same.refl H4) nU
      have dy : Dp K (upd H4 U (.tup [.int (i : Nat), y])) y (.tuple [.str ev, .tuple ts, .tuple as]) := dpSame s5 (dp_ts tp4.t 3 (rules_tpR gd _ (List.mem_of_getElem? hd1)) dt)
      have eU : upd H4 U (.tup [.int (i : Nat), y]) U = some (.tup [.int (i : Nat), y]) := upd_same
      generalize upd H4 U (.tup [.int (i : Nat), y]) = H5 at s5 dy eU ⊢
      obtain ⟨py, zs, rfl, hpy, dz⟩ := dp_tup dy
      cases dz with | cons z1 dz => cases dz with | cons z2 dz => cases dz with | cons z3 dz =>
      cases dz
      cases dp_str z1
      rename_i v2 v3
      walk_at "rn"
      obtain ⟨ys, ly, lly, py'⟩ := ls ev hev
      have k5 : Keep (fun b => ∃ e ∈ eventsS, b = lf e) H3 H5 := fun b o nb e => s5 _ _ (k4 _ _ nb e)
      have w5 := k5 _ _ (nl _ _ w3 fun _ => nofun) w3
      have d5 := k5 _ _ (nl _ _ d3 fun _ => nofun) d3
      refine ⟨_, .inl (.inl eU), rfl, _, _, rfl, _, _, rfl, _, rfl, _, hpy, rfl, _, _, rfl, _, _, rfl, _, _, rfl, rfl, rfl, ?_⟩
      refine ⟨_, _, _, w5, T.cl_Works, T.na_Works__rules_at, _, rfl, _, rfl, .ref (lf ev), by rw [← (r3 ev hev).1]; exact DGet.k (k := .inr ev) d5, .inl ⟨rfl, _, .inl (.inl (s5 _ _ ly))⟩, by decide +kernel, ?_⟩
      walk_at "lay"
      rename_i t6 H6 s6 n6 e6
      have ly6 := (s5.trans s6) _ _ ly
      have nt6 : t6 ≠ lf ev := fun c => by rw [c, s5 _ _ ly] at n6; cases n6
      refine ⟨lf ev, _, _, rfl, rfl, ly6, Nat.lt_of_le_of_lt (show ys.length ≤ 1000 by have := (firstBad_none dsk rs 0 g.2).1; have := this (by intro c; rw [c] at hi; cases hi); omega) (by decide), ⟨_, rfl⟩, fun b o nb e => ?_, fun e m => ?_⟩
      · rw [upd_ne fun c => nb ⟨ev, hev, c⟩]
        exact s6 _ _ (k5 _ _ nb e)
      · have k67 : Keep (fun b => b = lf ev) H6 (upd H6 (lf ev) (.lst (ys ++ [.ref t6]))) := fun b o nb e => by rw [upd_ne nb]; exact e
        have tp67 : Tps K H6 (upd H6 (lf ev) (.lst (ys ++ [.ref t6]))) := tps_of k67 fun b z => .inr (.inl ⟨_, z ▸ ly6⟩)
        have tp57 : Tps K H5 (upd H6 (lf ev) (.lst (ys ++ [.ref t6]))) := (Tps.of s6).trans tp67
        have tp47 := (Tps.of (K := K) s5).trans tp57
        have tk : rs.take (i + 1) = rs.take i ++ [.tuple [.str ev, .tuple ts, .tuple as]] := by rw [List.take_add_one, hd1]; rfl
        have lt : (rs.take i).length = i := by rw [List.length_take]; omega
        have rr : rulesAt e 0 (rs.take (i + 1)) = rulesAt e 0 (rs.take i) ++ (if ev = e then [((i : Int), ts, as)] else []) := by
          rw [tk, rulesAt_snoc e _ (rs.take i) 0 fun x mx => gd x (List.mem_of_mem_take mx), lt, rulesAt_one, Nat.zero_add]
        by_cases c : ev = e
        · subst c
          refine ⟨_, upd_same, by rw [List.length_append, List.length_singleton]; omega, ?_⟩
          rw [rr, if_pos rfl]
          refine (py'.mono fun _ _ z => z.tps tp47).snoc ⟨t6, v2, v3, rfl, by rw [upd_ne nt6]; exact e6, dp_ts tp57.t 2 (fun x mx => (hts x mx).tp) z2, dp_ts tp57.t 2 (fun x mx => (has x mx).tp) z3, hts, has, Nat.le_trans (by assumption) (by decide), Nat.le_trans (by assumption) (by decide)⟩
        · obtain ⟨y2, ly2, lly2, py2⟩ := ls e m
          have ne : lf e ≠ lf ev := fun z => c (r4 ev hev e m z.symm)
          refine ⟨y2, by rw [upd_ne ne]; exact (s5.trans s6) _ _ ly2, by omega, ?_⟩
          rw [rr, if_neg c, List.append_nil]
          exact py2.mono fun _ _ z => z.tps tp47
    · rintro σ H4 ⟨⟨o1, o2, o3, o4, rfl⟩, k4, ls⟩
      walk_at "rn"
      intro p H5 np kn nd
      have w4 := k4 _ _ (nl _ _ w3 fun _ => nofun) w3
      have d4 := k4 _ _ (nl _ _ d3 fun _ => nofun) d3
      have s45 : Same H4 H5 := fun b o e => by rw [kn b (ne_of_none e np)]; exact e
      refine ⟨_, _, _, s45 _ _ w4, T.cl_Works, T.na_Works__effects, by simp [wkF], ?_⟩
      have lfW : ∀ e ∈ eventsS, lf e ≠ W := fun e m c => by
        have := f3 e m
        rw [c, w3] at this
        cases this
      have nDW : D ≠ W := fun c => by rw [c, w3] at d3; cases d3
      have nb0 : ∀ b o, H b = some o → ¬ ∃ e ∈ eventsS, b = lf e := fun b o e z => by
        obtain ⟨y, m, rfl⟩ := z
        rw [fH _ (fr y m)] at e
        cases e
      generalize eG6 : upd H5 W _ = H6
      have k56 : Keep (fun b => b = W) H5 H6 := fun b o nb e => by rw [← eG6, upd_ne nb]; exact e
      have w6 : H6 W = some (.ins Z.Works dx (wkF [("rulebook", V.ref ba), ("_rules_at", V.ref D), ("_effects", V.ref p)])) := by rw [← eG6]; exact upd_same
      have tp56 : Tps K H5 H6 := tps_of k56 fun b z => .inr (.inr (.inl ⟨_, _, _, z ▸ s45 _ _ w4⟩))
      have tp46 : Tps K H4 H6 := (Tps.of s45).trans tp56
      have tp36 : Tps K H3 H6 := (tpK _ k4).trans tp46
      have k06 : Keep (fun b => b = W) H H6 := fun b o nb e => k56 _ _ nb (s45 _ _ (k4 _ _ (nb0 b o e) (k03 _ _ nb e)))
      have npW : p ≠ W := fun c => by rw [c, w4] at np; cases np
      have npH : H p = none := by
        cases e : H p with
        | none => rfl
        | some o =>
          have := k4 _ _ (nb0 p o e) (k03 _ _ npW e)
          rw [np] at this
          cases this
      refine q H6 D p k06 npH ⟨w6, bk.tps (fun o e => k06 _ _ nba e) (tp3.trans tp36), ⟨id, id, id, id⟩, ⟨ents, k56 _ _ nDW (s45 _ _ d4), fun ev m => ?_⟩, [], nd.keep (fun o e => k56 _ _ npW e) tp56.p, Nat.le_refl _, fun p m => nomatch m⟩
      obtain ⟨ys, l1, _, l3⟩ := ls ev m
      refine ⟨lf ev, ys, (r3 ev m).1, k56 _ _ (lfW ev m) (s45 _ _ l1), id, ?_⟩
      rw [ln, List.take_length] at l3
      exact l3.mono fun _ _ z => z.tps tp46
end
end Ld

set_option Elab.async false
set_option linter.all false
set_option maxRecDepth 100000
set_option maxHeartbeats 4000000
/-! Deeds looked at; the turns; play and faults. -/
namespace Ld
open PySem PySem.Spec PyProof.Rows L2
local macro_rules | `(tactic| walk_at "rd") => `(tactic| try simp only [tSeq, tNext, tRet, tRetN, tIfS, tTest, tB, tAnd, tOr, tNot, tAndV, tOrV, tNotV, tOp, tUn, tC, tVar, tCons, tNil, tCall, tCB, tAsg, tDrop, tChain, tIf, tYes, tBreak, tCont, tNever, tFld, sFld, sFldAug, tMeth, tMake, tRaiseF, tMkF, tM1, tOwn2S, tOwnIxS, tXf, tRevL, tMethS, tTup, tLst, tSl, tPart, tNoPart, tPar, tBM, tBM0, tLenSetT, tAug, gName, gTup, gCons, gNil, gStar2, gFld, gSub, rI0, rI, rU, rIxU, rIxS, rIn, rInU, rAddU, rSlU, rLenU, rTupU, rListU, rRep, rEqU_ss, rEqU_ii, rEqU_bb, rEqU_r, rNeU_ss, rNeU_ii, rNeU_bb, rNeU_r, cxOf, L2.start, wipe, List.map_cons, List.map_nil, List.length_cons, List.length_nil, List.replicate, List.cons_append, List.nil_append, List.append_nil, Nat.reduceSub, Nat.reduceAdd, List.getElem?_cons_zero, List.getElem?_cons_succ, List.set_cons_zero, List.set_cons_succ, Option.some.injEq, exists_eq_left', exists_eq_left, exists_eq, exists_and_left, V.bl.injEq, V.int.injEq, V.str.injEq, V.ref.injEq, V.ty.injEq, reduceCtorEq, false_and, and_false, exists_false, false_or, or_false, true_and, and_true, if_true, if_false, Bool.false_eq_true, ite_true, ite_false, reduceIte, decide_true, decide_false, Bool.not_true, Bool.not_false, Bool.not_eq_true, Bool.true_and, Bool.false_and, Bool.and_true, Bool.and_false, List.cons.injEq, and_assoc])
local macro_rules | `(tactic| walk_at "rn") => `(tactic| try simp only [tSeq, tNext, tRet, tRetN, tIfS, tTest, tB, tAnd, tOr, tNot, tAndV, tOrV, tNotV, tOp, tUn, tC, tVar, tCons, tNil, tCall, tCB, tAsg, tDrop, tChain, tIf, tYes, tBreak, tCont, tNever, tFld, sFld, sFldAug, tMeth, tMake, tRaiseF, tMkF, tM1, tOwn2S, tOwnIxS, tXf, tRevL, tMethS, tCallS, tMethK1, tDNewK, tRevT, Ends.cut, tDGet, rNotN, tNGet, sNPut, tNNew, tTup, tLst, tSl, tPart, tNoPart, tPar, tBM, tBM0, tLenSetT, tAug, gName, gTup, gCons, gNil, gStar2, gFld, gSub, rI0, rI, rU, rAddU_ii, tFor_rng, tLc_rng, rRep, rEqU_ss, rEqU_ii, rEqU_bb, rEqU_r, rNeU_ss, rNeU_ii, rNeU_bb, rNeU_r, cxOf, L2.start, wipe, List.map_cons, List.map_nil, List.length_cons, List.length_nil, List.replicate, List.cons_append, List.nil_append, List.append_nil, Nat.reduceSub, Nat.reduceAdd, List.getElem?_cons_zero, List.getElem?_cons_succ, List.set_cons_zero, List.set_cons_succ, Option.some.injEq, exists_eq_left', exists_eq_left, exists_eq, exists_and_left, V.bl.injEq, V.int.injEq, V.str.injEq, V.ref.injEq, V.ty.injEq, reduceCtorEq, false_and, and_false, exists_false, false_or, or_false, true_and, and_true, if_true, if_false, Bool.false_eq_true, ite_true, ite_false, reduceIte, decide_true, decide_false, Bool.not_true, Bool.not_false, Bool.not_eq_true, Bool.true_and, Bool.false_and, Bool.and_true, Bool.and_false, List.cons.injEq, and_assoc])
local macro_rules | `(tactic| walk_at "lay") => `(tactic| (apply lay_new; intro l h qq s n e; rw [← qq]; clear qq))
section
variable {P : Program} {w : World} {K : PySem.W.Frag} {mg : Str → Option Value} {base : Heap} {Z : Ad}
def firstWrong (dsk : List Str) : Nat → List PyData → Option Nat
  | _, [] => none
  | i, d :: r => if isDeedD dsk d = true then firstWrong dsk (i + 1) r else some i
def wrongD (dsk : List Str) : PyData → Option Nat
  | .list ds => firstWrong dsk 0 ds
  | _ => some 0
def ovI : Option Nat → V
  | none => .non
  | some i => .int (i : Nat)
def okDeeds (d : PyData) : Prop := ∀ ds, d = .list ds → ds.length ≤ 1000 ∧ ∀ e ∈ ds, okForm e
def spWrong (K : PySem.W.Frag) : Sp := fun vs H Q _ => ∃ v vd d dsk, vs = [v, vd] ∧ Dt K H v d ∧ okDeeds d ∧ Dp K H vd (.tuple (dsk.map PyData.str)) ∧ ∀ H', Same H H' → Q (ovI (wrongD dsk d)) H'
theorem d_wrong_deed (T : TX P K mg Z) : DefOk P w K mg base "wrong_deed" ["deeds", "desks"] 6 (spWrong K) := by
  refine T.f_wrong_deed.ok sc_wrong_deed (by rintro _ _ _ _ ⟨_, _, _, _, rfl, _⟩; rfl) fun f cdv A outer s H vs Q E hr h => ?_
  obtain ⟨v, vd, d, dsk, rfl, hv, ok, hvd, q⟩ := h
  refine ⟨_, (pss_cons (ps_if (pt_not (pt_val (pe_callB (kIsi (K := K)) (by rfl) T.b_isinstance (by decide +kernel) (pa_cons (pv 0) (pa_cons (pe_ty (n := "list") T.b_list) pa_nil))))) (pss_one (ps_ret pe_int)) pss_nil) (pss_cons (ps_for (passes_of rfl) rfl (kEnum (K := K) rfl T.b_enumerate (pa_cons (pv 0) pa_nil)) (kTup (K := K) (n := 2) rfl (pgs_cons (pg_name (i := 2) sc_wrong_deed.nd rfl (by first | exact Or.inl rfl | exact Or.inr rfl)) (pgs_cons (pg_name (i := 3) sc_wrong_deed.nd rfl (by first | exact Or.inl rfl | exact Or.inr rfl)) pgs_nil))) (pss_one (ps_if (pt_not (pt_val (pe_callD (d_is_deed T) hr rfl passL (pa_cons (pv 3) (pa_cons (pv 1) pa_nil))))) (pss_one (ps_ret (pv 2))) pss_nil))) (pss_one (ps_ret pe_non)))), ?_⟩
  walk_at "rn"
  refine isi_dt hv ⟨_, rfl, ?_⟩
  by_cases c : isD "list" d = true
  · obtain ⟨ds, rfl⟩ : ∃ ds, d = .list ds := by cases d <;> first | exact ⟨_, rfl⟩ | exact Bool.noConfusion c
    rw [c]
    walk_at "rn"
    obtain ⟨a, xs, rfl, hs, hda⟩ := hv.list
    obtain ⟨ad, rfl, hds⟩ := dp_strs hvd
    obtain ⟨l1, ok⟩ := ok ds rfl
    have ln := hda.len
    refine forEl (xs := xs) (a := a) (fun Q q => ⟨_, rfl, q⟩) hs (fun i σ H' => (∃ u v, σ = [some (.ref a), some (.ref ad), u, v]) ∧ Same H H' ∧ firstWrong dsk i (ds.drop i) = firstWrong dsk 0 ds) ⟨⟨_, _, rfl⟩, Same.refl H, rfl⟩ (fun i σ H' _ p => p.2.1.seq hs) ?_ ?_
    · rintro i y σ H' N hy ⟨⟨u, v, rfl⟩, k, e⟩ n
      obtain ⟨d1, hd1, hy'⟩ := dqs_get hda hy
      have k2 : Same H (upd H' N (.tup [.int (i : Nat), y])) := Same.put k n
      have eN : upd H' N (.tup [.int (i : Nat), y]) N = some (.tup [.int (i : Nat), y]) := upd_same
      generalize upd H' N (.tup [.int (i : Nat), y]) = H2 at k2 eN ⊢
      walk_at "rn"
      have hi : i < ds.length := by
        rcases Nat.lt_or_ge i ds.length with h | h
        · exact h
        · rw [List.getElem?_eq_none h] at hd1; cases hd1
      have dr : ds.drop i = d1 :: ds.drop (i + 1) := by
        obtain ⟨hi, e⟩ := List.getElem?_eq_some_iff.mp hd1
        rw [← e]
        exact List.drop_eq_getElem_cons hi
      rw [dr] at e
      refine ⟨_, .inl (.inl eN), rfl, _, _, rfl, _, _, rfl, rfl, _, _, _, _, rfl, hy'.same k2, ok _ (List.mem_of_getElem? hd1), same_seqT k2 hds, fun H3 s3 => ⟨_, rfl, ?_⟩⟩
      by_cases c2 : isDeedD dsk d1 = true
      · rw [if_neg (by rw [c2]; decide)]
        refine ⟨⟨_, rfl⟩, k2.trans s3, ?_⟩
        rw [← e]
        show _ = if isDeedD dsk d1 = true then _ else _
        rw [if_pos c2]
      · rw [if_pos (by rw [Bool.not_eq_true] at c2; rw [c2]; rfl)]
        have := q H3 (k2.trans s3)
        have e3 : wrongD dsk (.list ds) = some i := by
          show firstWrong dsk 0 ds = some i
          rw [← e]
          show (if isDeedD dsk d1 = true then _ else _) = _
          rw [if_neg c2]
        rw [e3] at this
        exact this
    · rintro σ H' ⟨⟨u, v, rfl⟩, k, e⟩
      walk_at "rn"
      rw [ln, List.drop_length] at e
      have := q H' k
      have e3 : wrongD dsk (.list ds) = none := e.symm
      rw [e3] at this
      exact this
  · rw [Bool.not_eq_true] at c
    rw [c]
    walk_at "rn"
    have e3 : wrongD dsk d = some 0 := by cases d <;> first | rfl | exact Bool.noConfusion c
    have := q H (Same.refl H)
    rw [e3] at this
    exact this
inductive ChkR where
  | ok
  | noDeed (i : Nat)
  | noTicket
def headW : List PyData → Bool
  | .tuple (.str w :: _) :: _ => decide (w = "letter")
  | _ => false
def checkD (dsk : List Str) (d : PyData) : ChkR := match wrongD dsk d with
  | some i => .noDeed i
  | none => match d with
    | .list [] => .ok
    | .list ds => if headW ds = true then .ok else .noTicket
    | _ => .ok
def spCheck (K : PySem.W.Frag) (Z : Ad) : Sp := fun vs H Q E => ∃ ba v d dsk rs, vs = [.ref ba, v] ∧ BookIs K Z.Book H (.ref ba) dsk rs ∧ Dt K H v d ∧ okDeeds d ∧ match checkD dsk d with
  | .ok => ∀ H', Same H H' → Q .non H'
  | .noDeed i => NoRuleE K Z.NoDeed H E (.int i)
  | .noTicket => NoRuleE K Z.NoTicket H E (.int 0)
theorem firstWrong_all (dsk : List Str) : ∀ (ds : List PyData) (i : Nat), firstWrong dsk i ds = none → ∀ d ∈ ds, DeedIs dsk d
  | [], _, _ => fun _ m => nomatch m
  | d :: r, i, h => by
    unfold firstWrong at h
    split at h
    · rename_i c
      intro e m
      rcases List.mem_cons.mp m with rfl | m
      · exact deed_of c
      · exact firstWrong_all dsk r (i + 1) h e m
    · cases h
theorem DeedIs.isTup {dsk : List Str} {d : PyData} (h : DeedIs dsk d) : ∃ es, d = .tuple es := by cases h <;> exact ⟨_, rfl⟩
theorem d__check_deeds (T : TX P K mg Z) : DefOk P w K mg base "_check_deeds" ["book", "deeds"] 8 (spCheck K Z) := by
  refine T.f__check_deeds.ok sc__check_deeds (by rintro _ _ _ _ ⟨_, _, _, _, _, rfl, _⟩; rfl) fun f cdv A outer s H vs Q E hr h => ?_
  obtain ⟨ba, v, d, dsk, rs, rfl, bk, hv, ok, q⟩ := h
  refine ⟨_, (pss_cons (ps_set (i := 2) sc__check_deeds.nd rfl (by first | exact Or.inl rfl | exact Or.inr rfl) (pe_callD (d_wrong_deed T) hr rfl passL (pa_cons (pv 1) (pa_cons (pe_methD0 (m_Book_desks T) hr (pv 0) passL) pa_nil)))) (pss_cons (ps_if (pt_cmpR op_notN (pv 2) pe_non (nomark _)) (pss_one (LowIndex.ps_raise rfl T.x_NoDeed T.c_NoDeed hr (takes_of rfl rfl rfl rfl) (pa_cons (pv 2) pa_nil))) pss_nil) (pss_one (ps_if (PW.pt (pw_and (pt_cmpR op_gt (pe_callB (kLen (K := K)) (by rfl) T.b_len PySem.boot_len (pa_cons (pv 1) pa_nil)) pe_int (nomark _)) (pw_and1 (pt_cmpR (kNe (K := K) hr.units) (pe_ix (kIx (K := K)) (pe_ix (kIx (K := K)) (pv 1) pe_int (fun _ _ => rfl)) pe_int (fun _ _ => rfl)) pe_str (nomark _))))) (pss_one (LowIndex.ps_raise rfl T.x_NoTicket T.c_NoTicket hr (takes_of rfl rfl rfl rfl) (pa_cons pe_int pa_nil))) pss_nil)))), ?_⟩
  walk_at "rn"
  obtain ⟨a', dx, vd, vr, ea, ha, hd, hrr, g⟩ := id bk
  cases ea
  refine ⟨_, _, ha, rfl, _, dsk, rs, rfl, bk, fun vd2 hvd2 => ⟨v, vd2, d, dsk, rfl, hv, ok, hvd2, fun H1 s1 => ?_⟩⟩
  unfold checkD at q
  cases hw : wrongD dsk d with
  | some i =>
    rw [hw] at q
    rw [if_pos (by rw [decide_eq_false (by intro c; cases c)]; rfl)]
    exact fun a n => raised (K := K) (d := .int (i : Nat)) q s1 (.int _) a n
  | none =>
    rw [hw] at q
    rw [if_neg (by decide)]
    obtain ⟨ds, rfl⟩ : ∃ ds, d = .list ds := by cases d <;> first | exact ⟨_, rfl⟩ | cases hw
    have al := firstWrong_all dsk ds 0 hw
    obtain ⟨a, xs, rfl, hs, hda⟩ := (hv.same s1).list
    have hda := dqs_dps hda fun d m => (al d m).isTup
    have ln := dps_len hda
    refine len_l hs ⟨_, rfl, ?_⟩
    cases ds with
    | nil =>
      rw [if_neg (by rw [decide_eq_false (by rw [ln]; simp)]; exact Bool.false_ne_true)]
      exact q H1 s1
    | cons d0 ds =>
      rw [if_pos (decide_eq_true (by rw [ln]; simp only [List.length_cons]; omega))]
      cases hda with | cons h0 hda =>
      refine ix_l (i := ((0 : Nat) : Int)) hs (atI_nat rfl) ?_
      have dd := al d0 List.mem_cons_self
      have fin : ∀ (k : Str) (rest : List PyData), d0 = .tuple (.str k :: rest) → rIxU K _ (.int ((0 : Nat) : Int)) H1 fun x H1 => rNeU K x (.str "letter") H1 fun x H' => ∃ k, x = .bl k ∧ if k = true then ∀ (d : Addr), H' d = none → E (Value.ref Z.NoTicket) (some d) (upd H' d (HO.xd [(Str.ofString "index", V.int 0)])) else Q V.non H' := fun k rest e => by
        subst e
        refine ix_dp (i := 0) h0 rfl fun v1 hv1 => ?_
        cases dp_str hv1
        rw [rNeU_ss]
        refine ⟨_, rfl, ?_⟩
        by_cases c : k = "letter"
        · subst c
          rw [if_neg (by simp)]
          exact q H1 s1
        · rw [if_pos (by simp [c])]
          have hf : headW (.tuple (.str k :: rest) :: ds) = false := decide_eq_false c
          have q2 : NoRuleE K Z.NoTicket H E (.int 0) := by
            have q3 : (match (if headW (.tuple (.str k :: rest) :: ds) = true then ChkR.ok else ChkR.noTicket) with
              | .ok => ∀ H', Same H H' → Q .non H'
              | .noDeed i => NoRuleE K Z.NoDeed H E (.int i)
              | .noTicket => NoRuleE K Z.NoTicket H E (.int 0)) := q
            rw [hf] at q3
            exact q3
          exact fun a n => raised (K := K) (d := .int 0) q2 s1 (.int _) a n
      cases dd with
      | letter => exact fin _ _ rfl
      | answer => exact fin _ _ rfl
      | day => exact fin _ _ rfl
      | hand z hz => exact fin _ _ rfl
      | set z hz => exact fin _ _ rfl
end
end Ld

set_option Elab.async false
set_option linter.all false
set_option maxRecDepth 100000
set_option maxHeartbeats 4000000
/-! The turns of a history; play; faults. -/
namespace Ld
open PySem PySem.Spec PyProof.Rows L2
local macro_rules | `(tactic| walk_at "rd") => `(tactic| try simp only [tSeq, tNext, tRet, tRetN, tIfS, tTest, tB, tAnd, tOr, tNot, tAndV, tOrV, tNotV, tOp, tUn, tC, tVar, tCons, tNil, tCall, tCB, tAsg, tDrop, tChain, tIf, tYes, tBreak, tCont, tNever, tFld, sFld, sFldAug, tMeth, tMake, tRaiseF, tMkF, tM1, tOwn2S, tOwnIxS, tXf, tRevL, tMethS, tTup, tLst, tSl, tPart, tNoPart, tPar, tBM, tBM0, tLenSetT, tAug, gName, gTup, gCons, gNil, gStar2, gFld, gSub, rI0, rI, rU, rIxU, rIxS, rIn, rInU, rAddU, rSlU, rLenU, rTupU, rListU, rRep, rEqU_ss, rEqU_ii, rEqU_bb, rEqU_r, rNeU_ss, rNeU_ii, rNeU_bb, rNeU_r, cxOf, L2.start, wipe, List.map_cons, List.map_nil, List.length_cons, List.length_nil, List.replicate, List.cons_append, List.nil_append, List.append_nil, Nat.reduceSub, Nat.reduceAdd, List.getElem?_cons_zero, List.getElem?_cons_succ, List.set_cons_zero, List.set_cons_succ, Option.some.injEq, exists_eq_left', exists_eq_left, exists_eq, exists_and_left, V.bl.injEq, V.int.injEq, V.str.injEq, V.ref.injEq, V.ty.injEq, reduceCtorEq, false_and, and_false, exists_false, false_or, or_false, true_and, and_true, if_true, if_false, Bool.false_eq_true, ite_true, ite_false, reduceIte, decide_true, decide_false, Bool.not_true, Bool.not_false, Bool.not_eq_true, Bool.true_and, Bool.false_and, Bool.and_true, Bool.and_false, List.cons.injEq, and_assoc])
local macro_rules | `(tactic| walk_at "rn") => `(tactic| try simp only [tSeq, tNext, tRet, tRetN, tIfS, tTest, tB, tAnd, tOr, tNot, tAndV, tOrV, tNotV, tOp, tUn, tC, tVar, tCons, tNil, tCall, tCB, tAsg, tDrop, tChain, tIf, tYes, tBreak, tCont, tNever, tFld, sFld, sFldAug, tMeth, tMake, tRaiseF, tMkF, tM1, tOwn2S, tOwnIxS, tXf, tRevL, tMethS, tCallS, tMethK1, tDNewK, tRevT, Ends.cut, tDGet, rNotN, tNGet, sNPut, tNNew, tTup, tLst, tSl, tPart, tNoPart, tPar, tBM, tBM0, tLenSetT, tAug, gName, gTup, gCons, gNil, gStar2, gFld, gSub, rI0, rI, rU, rAddU_ii, tFor_rng, tLc_rng, rRep, rEqU_ss, rEqU_ii, rEqU_bb, rEqU_r, rNeU_ss, rNeU_ii, rNeU_bb, rNeU_r, cxOf, L2.start, wipe, List.map_cons, List.map_nil, List.length_cons, List.length_nil, List.replicate, List.cons_append, List.nil_append, List.append_nil, Nat.reduceSub, Nat.reduceAdd, List.getElem?_cons_zero, List.getElem?_cons_succ, List.set_cons_zero, List.set_cons_succ, Option.some.injEq, exists_eq_left', exists_eq_left, exists_eq, exists_and_left, V.bl.injEq, V.int.injEq, V.str.injEq, V.ref.injEq, V.ty.injEq, reduceCtorEq, false_and, and_false, exists_false, false_or, or_false, true_and, and_true, if_true, if_false, Bool.false_eq_true, ite_true, ite_false, reduceIte, decide_true, decide_false, Bool.not_true, Bool.not_false, Bool.not_eq_true, Bool.true_and, Bool.false_and, Bool.and_true, Bool.and_false, List.cons.injEq, and_assoc])
local macro_rules | `(tactic| walk_at "lay") => `(tactic| (apply lay_new; intro l h qq s n e; rw [← qq]; clear qq))
section
variable {P : Program} {w : World} {K : PySem.W.Frag} {mg : Str → Option Value} {base : Heap} {Z : Ad}
def TnP (Z : Ad) (H0 H : Hp) (v : V) (t : Tn) : Prop := ∃ a dxt la lk, v = .ref a ∧ TnAt Z.Turn H a dxt la lk t ∧ H0 la = none ∧ H0 lk = none
/-- what is raised of a history that is refused -/
def refuse (K : PySem.W.Frag) (Z : Ad) (H : Hp) (E : XK) : ChkR → Prop → Prop
  | .ok, q => q
  | .noDeed i, _ => NoRuleE K Z.NoDeed H E (.int i)
  | .noTicket, _ => NoRuleE K Z.NoTicket H E (.int 0)
/-- a turn whose lists are not the list at lt -/
def TnQ (Z : Ad) (H0 : Hp) (lt : Addr) (H : Hp) (v : V) (t : Tn) : Prop := ∃ a dxt la lk, v = .ref a ∧ TnAt Z.Turn H a dxt la lk t ∧ la ≠ lt ∧ lk ≠ lt ∧ H0 la = none ∧ H0 lk = none
theorem TnQ.keep {lt : Addr} {H0 H H' : Hp} {bad : Addr → Prop} {v : V} {t : Tn} (h : TnQ Z H0 lt H v t) (k : Keep bad H H') (tp : Tps K H H') (h1 : ∀ b o, bad b → H b = some o → b = lt ∨ ∃ p, o = .ext p) (hl : ∃ us, H lt = some (.lst us)) : TnQ Z H0 lt H' v t := by
  obtain ⟨a, dxt, la, lk, rfl, x, n1, n2, n3⟩ := h
  obtain ⟨us, hl⟩ := hl
  obtain ⟨vb, tv⟩ := x.v
  refine ⟨a, dxt, la, lk, rfl, x.keep _ k (fun z => ?_) (fun z => ?_) (fun z => ?_) tp, n1, n2, n3⟩
  · rcases h1 _ _ z tv.ins with c | ⟨p, c⟩
    · have := tv.ins
      rw [c, hl] at this
      cases this
    · cases c
  · rcases h1 _ _ z tv.ac with c | ⟨p, c⟩
    · exact n1 c
    · cases c
  · rcases h1 _ _ z tv.kd with c | ⟨p, c⟩
    · exact n2 c
    · cases c
def spTurns (K : PySem.W.Frag) (Z : Ad) : Sp := fun vs H Q E => ∃ ba v d dsk rs, vs = [.ref ba, v] ∧ BookIs K Z.Book H (.ref ba) dsk rs ∧ Dt K H v d ∧ okDeeds d ∧ refuse K Z H E (checkD dsk d) (∀ ds H' l us, d = .list ds → (∀ e ∈ ds, DeedIs dsk e) → Same H H' → H l = none → H' l = some (.lst us) → Paired (TnP Z H H') us (turnsT (effT rs) dsk none ds) → Q (.ref l) H')
theorem check_ok {dsk : List Str} {d : PyData} (h : checkD dsk d = .ok) : ∃ ds, d = .list ds ∧ ∀ e ∈ ds, DeedIs dsk e := by
  unfold checkD at h
  cases hw : wrongD dsk d with
  | some i => rw [hw] at h; cases h
  | none =>
    obtain ⟨ds, rfl⟩ : ∃ ds, d = .list ds := by cases d <;> first | exact ⟨_, rfl⟩ | cases hw
    exact ⟨ds, rfl, firstWrong_all dsk ds 0 hw⟩
theorem turnsT_snoc (ef : Str → Tk → Ef) (dsk : List Str) (tk : Option Tk) (d : PyData) (r : List PyData) : turnsT ef dsk tk (d :: r) = turnT ef dsk tk d :: turnsT ef dsk (some (turnT ef dsk tk d).behind) r := rfl
theorem d__turns (T : TX P K mg Z) : DefOk P w K mg base "_turns" ["book", "deeds"] 14 (spTurns K Z) := by
  refine T.f__turns.ok sc__turns (by rintro _ _ _ _ ⟨_, _, _, _, _, rfl, _⟩; rfl) fun f cdv A outer s H vs Q E hr h => ?_
  obtain ⟨ba, v, d, dsk, rs, rfl, bk, hv, ok, q⟩ := h
  refine ⟨_, (pss_cons (ps_expr (pe_callD (d__check_deeds T) hr rfl (passes_call (takes_of rfl rfl rfl rfl) (fun _ _ _ _ h => h)) (pa_cons (pv 0) (pa_cons (pv 1) pa_nil)))) (pss_cons (ps_set (i := 2) sc__turns.nd rfl (by first | exact Or.inl rfl | exact Or.inr rfl) (pe_makeD (mk_Works T) hr rfl passL (pa_cons (pv 0) pa_nil))) (pss_cons (ps_set (i := 3) sc__turns.nd rfl (by first | exact Or.inl rfl | exact Or.inr rfl) (pe_lst pa_nil)) (pss_cons (ps_set (i := 4) sc__turns.nd rfl (by first | exact Or.inl rfl | exact Or.inr rfl) pe_non) (pss_cons (ps_for (passes_of rfl) rfl (kSeq (K := K) (pv 1)) (pg_name (i := 5) sc__turns.nd rfl (by first | exact Or.inl rfl | exact Or.inr rfl)) (pss_cons (ps_set (i := 6) sc__turns.nd rfl (by first | exact Or.inl rfl | exact Or.inr rfl) (pe_methD (m_Works_turn T) hr (pv 2) passL (pa_cons (pv 4) (pa_cons (pv 5) pa_nil)))) (pss_cons (ps_set (i := 4) sc__turns.nd rfl (by first | exact Or.inl rfl | exact Or.inr rfl) (kFld (K := K) (pv 6) rfl)) (pss_one (ps_expr (kBm (K := K) PySem.F.plainAttrs_list PySem.F.slot_list_append PySem.F.type_list_append mt_append (pv 3) (pa_cons (pv 6) pa_nil))))))) (pss_one (ps_ret (pv 3)))))))), ?_⟩
  walk_at "rn"
  refine ⟨ba, v, d, dsk, rs, rfl, bk, hv, ok, ?_⟩
  cases hc : checkD dsk d with
  | noDeed i => rw [hc] at q; exact q
  | noTicket => rw [hc] at q; exact q
  | ok =>
    rw [hc] at q
    have q : ∀ ds H' l us, d = .list ds → (∀ e ∈ ds, DeedIs dsk e) → Same H H' → H l = none → H' l = some (.lst us) → Paired (TnP Z H H') us (turnsT (effT rs) dsk none ds) → Q (.ref l) H' := q
    obtain ⟨ds, rfl, al⟩ := check_ok hc
    intro H1 s1
    walk_at "rn"
    intro W dx nW ndx nWd
    have s2 : Same H1 (upd (upd H1 dx (.own W)) W (.ins Z.Works dx [])) := fun b o eb => by
      rw [upd_ne (ne_of_none eb nW), upd_ne (ne_of_none eb ndx)]
      exact eb
    generalize eG : upd (upd H1 dx (.own W)) W (.ins Z.Works dx []) = H2 at s2 ⊢
    have x2 : H2 W = some (.ins Z.Works dx []) := by rw [← eG]; exact upd_same
    refine ⟨W, dx, ba, dsk, rs, rfl, x2, bk.same (s1.trans s2), fun H3 rd ed k3 ned wk3 => ⟨rfl, by decide +kernel, fun lt nlt => ?_⟩⟩
    have s3 : Same H H3 := fun b o e => k3 b o (ne_of_none (s1 _ _ e) nW) ((s1.trans s2) _ _ e)
    have back : ∀ b, H3 b = none → H b = none := fun b z => by
      cases eb : H b with
      | none => rfl
      | some o => rw [s3 _ _ eb] at z; cases z
    have s4 : Same H3 (upd H3 lt (.lst [])) := Same.put (Same.refl H3) nlt
    have e4 : upd H3 lt (.lst []) lt = some (.lst []) := upd_same
    have wk4 : WkAt P w K Z (upd H3 lt (.lst [])) W dx ba rd ed dsk rs (fun b => b = lt) 0 := (wk3.widen (bad' := fun b => b = lt) fun b z => .inr (z ▸ nlt)).keep (fun b o _ e => s4 _ _ e) fun b z => .inl (z ▸ nlt)
    generalize upd H3 lt (.lst []) = H4 at s4 e4 wk4 ⊢
    have s04 := s3.trans s4
    obtain ⟨a, xs, rfl, hs, hda⟩ := hv.list
    have hda := dqs_dps hda fun d m => (al d m).isTup
    have ln := dps_len hda
    obtain ⟨l1, okd⟩ := ok ds rfl
    have nlH := back _ nlt
    refine for_l ?_
    walk_at "rn"
    refine forLx (s04.seq hs) (fun i σ H' => ∃ tkv tk o5 o6 us ts, σ = [some (.ref ba), some (.ref a), some (.ref W), some (.ref lt), some tkv, o5, o6] ∧ tkV K H' tkv tk ∧ Same H H' ∧ WkAt P w K Z H' W dx ba rd ed dsk rs (fun b => b = lt) (50 * i) ∧ H' lt = some (.lst us) ∧ us.length = i ∧ Paired (TnQ Z H lt H') us ts ∧ ts ++ turnsT (effT rs) dsk tk (ds.drop i) = turnsT (effT rs) dsk none ds)
      ⟨_, none, _, _, [], [], rfl, rfl, s04, wk4, e4, rfl, .nil, rfl⟩ (fun i σ H' _ z => by obtain ⟨_, _, _, _, _, _, _, _, s', _⟩ := z; exact s'.seq hs) ?_ ?_
    · rintro i y σ H5 hy ⟨tkv, tk, o5, o6, us, ts, rfl, htk, s5, wk5, e5, lu, pr, tq⟩
      obtain ⟨d, hd1, dt⟩ := dps_get hda hy
      have hi : i < ds.length := by
        rcases Nat.lt_or_ge i ds.length with h | h
        · exact h
        · rw [List.getElem?_eq_none h] at hd1; cases hd1
      have dr : ds.drop i = d :: ds.drop (i + 1) := by
        obtain ⟨hi, e⟩ := List.getElem?_eq_some_iff.mp hd1
        rw [← e]
        exact List.drop_eq_getElem_cons hi
      rw [dr] at tq
      obtain ⟨pe, hpe⟩ := wk5.ed_ext
      have nled : lt ≠ ed := fun c => by rw [c, hpe] at e5; cases e5
      walk_at "rn"
      refine ⟨_, _, wk5.ins, rfl, _, W, dx, ba, rd, ed, dsk, rs, 50 * i, tk, tkv, y, d, rfl, wk5, htk, dpSame s5 dt, al d (List.mem_of_getElem? hd1), by omega, fun b z => by rw [z, e5]; exact ⟨.inr (.inl ⟨_, by rw [e5]⟩), nofun⟩, fun H6 a' dxt la lk nla nlk k6 tn6 wk6 => ?_⟩
      obtain ⟨vb, tv6⟩ := tn6.v
      have e6 : H6 lt = some (.lst us) := k6 _ _ nled e5
      have tp6 : Tps K H5 H6 := tps_of k6 fun b z => .inr (.inr (.inr ⟨_, z ▸ hpe⟩))
      refine ⟨_, rfl, _, _, _, tv6.ins, T.cl_Turn, T.na_Turn_behind, _, rfl, .inl ⟨rfl, _, .inl (.inl e6)⟩, lt, us, _, rfl, rfl, e6, Nat.lt_of_le_of_lt (show us.length ≤ 1000 by omega) (by decide), ?_⟩
      have k67 : Keep (fun b => b = lt) H6 (upd H6 lt (.lst (us ++ [.ref a']))) := fun b o nb e => by rw [upd_ne nb]; exact e
      have e7 : upd H6 lt (.lst (us ++ [.ref a'])) lt = some (.lst (us ++ [.ref a'])) := upd_same
      generalize upd H6 lt (.lst (us ++ [.ref a'])) = H7 at k67 e7 ⊢
      have tp67 : Tps K H6 H7 := tps_of k67 fun b z => .inr (.inl ⟨_, z ▸ e6⟩)
      have nltH : ∀ b, H5 b = none → b ≠ lt := fun b z c => by rw [c, e5] at z; cases z
      have backH : ∀ b, H5 b = none → H b = none := fun b z => by
        cases eb : H b with
        | none => rfl
        | some o => rw [s5 _ _ eb] at z; cases z
      have new6 : TnQ Z H lt H6 (.ref a') (turnT (effT rs) dsk tk d) := ⟨a', dxt, la, lk, rfl, tn6, nltH _ nla, nltH _ nlk, backH _ nla, backH _ nlk⟩
      have up7 : ∀ v t, TnQ Z H lt H6 v t → TnQ Z H lt H7 v t := fun v t z => z.keep k67 tp67 (fun b o z _ => .inl z) ⟨_, e6⟩
      have hb : TkAt H7 vb (turnT (effT rs) dsk tk d).behind := tv6.tk.keep tp67
      refine ⟨some (turnT (effT rs) dsk tk d).behind, hb, ?_, ?_, us ++ [.ref a'], e7, by rw [List.length_append, List.length_singleton, lu], ts ++ [turnT (effT rs) dsk tk d], ?_, ?_⟩
      · intro b o e
        have c1 : b ≠ lt := ne_of_none e nlH
        have c2 : b ≠ ed := fun c => by
          have := s5 _ _ e
          rw [c, hpe] at this
          injection this with this
          subst this
          have := s04 _ _ e
          have nn : H ed = none := by
            cases eb : H ed with
            | none => rfl
            | some o => rw [(s1.trans s2) _ _ eb] at ned; cases ned
          rw [c, nn] at e
          cases e
        exact k67 _ _ c1 (k6 _ _ c2 (s5 _ _ e))
      · exact (wk6.keep k67 fun b z => .inr (.inl ⟨_, z ▸ e6⟩)).up (by omega)
      · refine (pr.mono fun v t z => up7 v t (z.keep k6 tp6 (fun b o z e => .inr ?_) ⟨_, e5⟩)).snoc (up7 _ _ new6)
        rw [z, hpe] at e
        injection e with e
        exact ⟨_, e.symm⟩
      · rw [← tq, turnsT_snoc, List.append_assoc]
        rfl
    · rintro σ H5 ⟨tkv, tk, o5, o6, us, ts, rfl, htk, s5, wk5, e5, lu, pr, tq⟩
      walk_at "rn"
      rw [ln, List.drop_length] at tq
      rw [show turnsT (effT rs) dsk tk [] = [] from rfl, List.append_nil] at tq
      subst tq
      exact q ds H5 lt us rfl al s5 nlH e5 (pr.mono fun _ _ z => by obtain ⟨a, b, c, d, e, f, _, _, g⟩ := z; exact ⟨a, b, c, d, e, f, g⟩)
end
end Ld

set_option Elab.async false
set_option linter.all false
set_option maxRecDepth 100000
set_option maxHeartbeats 4000000
/-! play and faults. -/
namespace Ld
open PySem PySem.Spec PyProof.Rows L2
local macro_rules | `(tactic| walk_at "rd") => `(tactic| try simp only [tSeq, tNext, tRet, tRetN, tIfS, tTest, tB, tAnd, tOr, tNot, tAndV, tOrV, tNotV, tOp, tUn, tC, tVar, tCons, tNil, tCall, tCB, tAsg, tDrop, tChain, tIf, tYes, tBreak, tCont, tNever, tFld, sFld, sFldAug, tMeth, tMake, tRaiseF, tMkF, tM1, tOwn2S, tOwnIxS, tXf, tRevL, tMethS, tTup, tLst, tSl, tPart, tNoPart, tPar, tBM, tBM0, tLenSetT, tAug, gName, gTup, gCons, gNil, gStar2, gFld, gSub, rI0, rI, rU, rIxU, rIxS, rIn, rInU, rAddU, rSlU, rLenU, rTupU, rListU, rRep, rEqU_ss, rEqU_ii, rEqU_bb, rEqU_r, rNeU_ss, rNeU_ii, rNeU_bb, rNeU_r, cxOf, L2.start, wipe, List.map_cons, List.map_nil, List.length_cons, List.length_nil, List.replicate, List.cons_append, List.nil_append, List.append_nil, Nat.reduceSub, Nat.reduceAdd, List.getElem?_cons_zero, List.getElem?_cons_succ, List.set_cons_zero, List.set_cons_succ, Option.some.injEq, exists_eq_left', exists_eq_left, exists_eq, exists_and_left, V.bl.injEq, V.int.injEq, V.str.injEq, V.ref.injEq, V.ty.injEq, reduceCtorEq, false_and, and_false, exists_false, false_or, or_false, true_and, and_true, if_true, if_false, Bool.false_eq_true, ite_true, ite_false, reduceIte, decide_true, decide_false, Bool.not_true, Bool.not_false, Bool.not_eq_true, Bool.true_and, Bool.false_and, Bool.and_true, Bool.and_false, List.cons.injEq, and_assoc])
local macro_rules | `(tactic| walk_at "rn") => `(tactic| try simp only [tSeq, tNext, tRet, tRetN, tIfS, tTest, tB, tAnd, tOr, tNot, tAndV, tOrV, tNotV, tOp, tUn, tC, tVar, tCons, tNil, tCall, tCB, tAsg, tDrop, tChain, tIf, tYes, tBreak, tCont, tNever, tFld, sFld, sFldAug, tMeth, tMake, tRaiseF, tMkF, tM1, tOwn2S, tOwnIxS, tXf, tRevL, tMethS, tCallS, tMethK1, tDNewK, tRevT, Ends.cut, tDGet, rNotN, tNGet, sNPut, tNNew, tTup, tLst, tSl, tPart, tNoPart, tPar, tBM, tBM0, tLenSetT, tAug, gName, gTup, gCons, gNil, gStar2, gFld, gSub, rI0, rI, rU, rAddU_ii, tFor_rng, tLc_rng, rRep, rEqU_ss, rEqU_ii, rEqU_bb, rEqU_r, rNeU_ss, rNeU_ii, rNeU_bb, rNeU_r, cxOf, L2.start, wipe, List.map_cons, List.map_nil, List.length_cons, List.length_nil, List.replicate, List.cons_append, List.nil_append, List.append_nil, Nat.reduceSub, Nat.reduceAdd, List.getElem?_cons_zero, List.getElem?_cons_succ, List.set_cons_zero, List.set_cons_succ, Option.some.injEq, exists_eq_left', exists_eq_left, exists_eq, exists_and_left, V.bl.injEq, V.int.injEq, V.str.injEq, V.ref.injEq, V.ty.injEq, reduceCtorEq, false_and, and_false, exists_false, false_or, or_false, true_and, and_true, if_true, if_false, Bool.false_eq_true, ite_true, ite_false, reduceIte, decide_true, decide_false, Bool.not_true, Bool.not_false, Bool.not_eq_true, Bool.true_and, Bool.false_and, Bool.and_true, Bool.and_false, List.cons.injEq, and_assoc])
local macro_rules | `(tactic| walk_at "lay") => `(tactic| (apply lay_new; intro l h qq s n e; rw [← qq]; clear qq))
section
variable {P : Program} {w : World} {K : PySem.W.Frag} {mg : Str → Option Value} {base : Heap} {Z : Ad}
/-- a comprehension over a list whose items are laid anew -/
theorem lcFsL {H : Hp} {Q : VK} {σ : L2.St} {g : TG} {te : TE} {vs : List Nat} {a : Addr} {xs : List V} (hs : ∀ H', Same H H' → SqL K H' a xs) (few : xs.length < sizeLine) (G : Nat → PyData)
    (step : ∀ i x H' (N : VK), xs[i]? = some x → Same H H' → (∀ y H4, Same H' H4 → Fs K H' H4 y (G i) → N y H4) → g x (wipe σ vs) H' fun σ2 H2 => wipe σ2 vs = wipe σ vs ∧ te σ2 H2 N)
    (hd : ∀ D H' ys, H D = none → Same H H' → H' D = some (.lst ys) → FsAll K H H' ys ((List.range xs.length).map G) → Q (.ref D) H') : LcSeqL K g tYes te vs σ Q (.ref a) H := by
  refine ⟨a, rfl, ⟨xs, hs H (Same.refl H)⟩, ?_⟩
  refine lcAnyIn walk_list (fun D i H' => Same H H' ∧ ∃ ys, H' D = some (.lst ys) ∧ ys.length = i ∧ FsAll K (upd H D (.lst [])) H' ys ((List.range i).map G)) (fun D nD => ⟨(Same.put (Same.refl H) nD), [], upd_same, rfl, .nil⟩) (fun D i H' _ q => hs H' q.1) ?_ ?_
  · rintro D nD i x H0 H1 hi ⟨k1, ys, e1, ly, fa⟩ y
    obtain ⟨rfl, hx⟩ := y
    unfold lcTurn
    refine step i x H1 _ hx k1 fun y H4 s4 f4 => ?_
    have e4 := s4 _ _ e1
    have stD : ∀ b, upd H D (.lst []) b ≠ none → H1 b ≠ none := fun b z => by
      by_cases c : b = D
      · rw [c, e1]; exact nofun
      · rw [upd_ne c] at z
        cases e : H b with
        | none => exact absurd e z
        | some o => rw [k1 _ _ e]; exact nofun
    have k5 : Keep (fun b => b = D) H4 (upd H4 D (.lst (ys ++ [y]))) := fun b o nb e => by rw [upd_ne nb]; exact e
    have sD : ∀ b, b = D → upd H D (.lst []) b ≠ none ∧ Soft H4 b := fun b z => by
      rw [z, upd_same]
      exact ⟨nofun, .inr (.inl ⟨_, e4⟩)⟩
    refine ⟨ys, e4, by rw [ly]; have := (List.getElem?_eq_some_iff.mp hx).1; omega, ?_, ys ++ [y], upd_same, by rw [List.length_append, List.length_singleton, ly], ?_⟩
    · intro b o e
      rw [upd_ne (ne_of_none e nD)]
      exact s4 _ _ (k1 _ _ e)
    · rw [List.range_succ, List.map_append]
      exact (fa.mono fun _ _ z => (z.same s4).later k5 sD).snoc ((f4.weak stD).later k5 sD)
  · rintro D nD H' ⟨k, ys, e, ly, fa⟩
    refine hd D H' ys nD k e (fa.mono fun _ _ z => z.weak fun b zb => ?_)
    by_cases c : b = D
    · rw [c, upd_same]; exact nofun
    · rw [upd_ne c]; exact zb
theorem lcNewL {α : Type} {Rl : Hp → Hp → V → α → Prop} (wk : ∀ H0 H H1 v a, Rl H H1 v a → (∀ b, H0 b ≠ none → H b ≠ none) → Rl H0 H1 v a) (lt : ∀ H H1 H2 v a (q0 : Addr → Prop), Rl H H1 v a → Keep q0 H1 H2 → (∀ b, q0 b → H b ≠ none ∧ Soft H1 b) → Rl H H2 v a)
    {H : Hp} {Q : VK} {σ : L2.St} {g : TG} {te : TE} {vs : List Nat} {a : Addr} {xs : List V} {ts : List α} (lx : xs.length = ts.length) (hs : ∀ H', Same H H' → SqL K H' a xs) (few : xs.length < sizeLine)
    (step : ∀ (i : Nat) (x : V) (t : α) (H' : Hp) (N : VK), xs[i]? = some x → ts[i]? = some t → Same H H' → (∀ y H4, Same H' H4 → Rl H' H4 y t → N y H4) → g x (wipe σ vs) H' fun σ2 H2 => wipe σ2 vs = wipe σ vs ∧ te σ2 H2 N)
    (hd : ∀ D H' ys, H D = none → Same H H' → H' D = some (.lst ys) → Paired (Rl H H') ys ts → Q (.ref D) H') : LcSeqL K g tYes te vs σ Q (.ref a) H := by
  refine ⟨a, rfl, ⟨xs, hs H (Same.refl H)⟩, ?_⟩
  refine lcAnyIn walk_list (fun D i H' => Same H H' ∧ ∃ ys, H' D = some (.lst ys) ∧ ys.length = i ∧ Paired (Rl (upd H D (.lst [])) H') ys (ts.take i)) (fun D nD => ⟨(Same.put (Same.refl H) nD), [], upd_same, rfl, .nil⟩) (fun D i H' _ q => hs H' q.1) ?_ ?_
  · rintro D nD i x H0 H1 hi ⟨k1, ys, e1, ly, fa⟩ y
    obtain ⟨rfl, hx⟩ := y
    unfold lcTurn
    have hi2 : i < ts.length := by rw [← lx]; exact (List.getElem?_eq_some_iff.mp hx).1
    have ht : ts[i]? = some ts[i] := List.getElem?_eq_getElem hi2
    refine step i x ts[i] H1 _ hx ht k1 fun y H4 s4 f4 => ?_
    have e4 := s4 _ _ e1
    have stD : ∀ b, upd H D (.lst []) b ≠ none → H1 b ≠ none := fun b z => by
      by_cases c : b = D
      · rw [c, e1]; exact nofun
      · rw [upd_ne c] at z
        cases e : H b with
        | none => exact absurd e z
        | some o => rw [k1 _ _ e]; exact nofun
    have k5 : Keep (fun b => b = D) H4 (upd H4 D (.lst (ys ++ [y]))) := fun b o nb e => by rw [upd_ne nb]; exact e
    have sD : ∀ b, b = D → upd H D (.lst []) b ≠ none ∧ Soft H4 b := fun b z => by
      rw [z, upd_same]
      exact ⟨nofun, .inr (.inl ⟨_, e4⟩)⟩
    have k4 : Keep (fun _ => False) H1 H4 := fun b o _ e => s4 b o e
    refine ⟨ys, e4, by rw [ly]; have := (List.getElem?_eq_some_iff.mp hx).1; omega, ?_, ys ++ [y], upd_same, by rw [List.length_append, List.length_singleton, ly], ?_⟩
    · intro b o e
      rw [upd_ne (ne_of_none e nD)]
      exact s4 _ _ (k1 _ _ e)
    · rw [List.take_succ, ht]
      exact (fa.mono fun _ _ z => lt _ _ _ _ _ _ (lt _ _ _ _ _ _ z k4 fun _ z => z.elim) k5 sD).snoc (lt _ _ _ _ _ _ (wk _ _ _ _ _ f4 stD) k5 sD)
  · rintro D nD H' ⟨k, ys, e, ly, fa⟩
    rw [lx, List.take_length] at fa
    refine hd D H' ys nD k e (fa.mono fun _ _ z => wk _ _ _ _ _ z fun b zb => ?_)
    by_cases c : b = D
    · rw [c, upd_same]; exact nofun
    · rw [upd_ne c]; exact zb
theorem range_getD {α : Type} (f : α → PyData) (d : PyData) (ts : List α) : ((List.range ts.length).map fun i => (ts[i]?.map f).getD d) = ts.map f := by
  refine List.ext_getElem (by simp) fun i h1 h2 => ?_
  have h : i < ts.length := by simpa using h2
  simp [List.getElem?_eq_getElem h]
def playT (rs : List PyData) (dsk : List Str) (ds : List PyData) : List PyData := (turnsT (effT rs) dsk none ds).map reportD
def wrongT (rs : List PyData) (dsk : List Str) (ds : List PyData) : List (Str × Nat) := faultsOf 0 (turnsT (effT rs) dsk none ds)
/-- play tells new things -/
def spPlay (K : PySem.W.Frag) (Z : Ad) : Sp := fun vs H Q E => ∃ ba v d dsk rs, vs = [.ref ba, v] ∧ BookIs K Z.Book H (.ref ba) dsk rs ∧ Dt K H v d ∧ okDeeds d ∧ refuse K Z H E (checkD dsk d) (∀ ds D ys H', d = .list ds → (∀ e ∈ ds, DeedIs dsk e) → Same H H' → H D = none → H' D = some (.lst ys) → Paired (RepN H H') ys (turnsT (effT rs) dsk none ds) → Q (.ref D) H')
theorem turns_len (ef : Str → Tk → Ef) (dsk : List Str) : ∀ (ds : List PyData) (tk : Option Tk), (turnsT ef dsk tk ds).length = ds.length
  | [], _ => rfl
  | d :: r, tk => by
    show (turnsT ef dsk _ r).length + 1 = r.length + 1
    rw [turns_len ef dsk r]
theorem d_play (T : TX P K mg Z) : DefOk P w K mg base "play" ["book", "deeds"] 16 (spPlay K Z) := by
  refine T.f_play.ok sc_play (by rintro _ _ _ _ ⟨_, _, _, _, _, rfl, _⟩; rfl) fun f cdv A outer s H vs Q E hr h => ?_
  obtain ⟨ba, v, d, dsk, rs, rfl, bk, hv, ok, q⟩ := h
  refine ⟨_, (pss_one (ps_ret (pe_lc (own := [("turn", 2)]) rfl sc_play.nd (kSeq (K := K) (pe_callD (d__turns T) hr rfl (passes_call (takes_of rfl rfl rfl rfl) (fun _ _ _ _ h => h)) (pa_cons (pv 0) (pa_cons (pv 1) pa_nil)))) (blkOk_by (N := ["book", "deeds", "turn"]) (sc := defScope s_play) (own := [("turn", 2)]) (by decide +kernel)) (fun _ _ _ _ _ => (pg_name (i := 2) sc_play.nd rfl (by first | exact Or.inl rfl | exact Or.inr rfl))) (fun _ _ _ _ _ => pts_nil) (fun _ _ _ _ _ => (pe_methD0 (m_Turn_report T) hr (pv 2) passL))))), ?_⟩
  walk_at "rn"
  refine lc_l ?_
  walk_at "rn"
  refine ⟨ba, v, d, dsk, rs, rfl, bk, hv, ok, ?_⟩
  cases hc : checkD dsk d with
  | noDeed i => rw [hc] at q; exact q
  | noTicket => rw [hc] at q; exact q
  | ok =>
    rw [hc] at q
    intro ds H1 l us ed al s1 nl el pr
    subst ed
    have q : ∀ ds2 D ys H', PyData.list ds = .list ds2 → (∀ e ∈ ds2, DeedIs dsk e) → Same H H' → H D = none → H' D = some (.lst ys) → Paired (RepN H H') ys (turnsT (effT rs) dsk none ds2) → Q (.ref D) H' := q
    have ln := pr.length
    have few : us.length < sizeLine := by
      rw [ln, turns_len]
      exact Nat.lt_of_le_of_lt (ok ds rfl).1 (by decide)
    have st : ∀ b, H b ≠ none → H1 b ≠ none := fun b z => by
      cases e : H b with
      | none => exact absurd e z
      | some o => rw [s1 _ _ e]; exact nofun
    refine lcNewL (Rl := RepN) (fun _ _ _ _ _ z g => z.weak g) (fun _ _ _ _ _ _ z k hq => z.later k hq) ln (fun H' s' => .inl (.inl (s' _ _ el))) few ?_ ?_
    · intro i x t H2 N hx ht s2 nt
      obtain ⟨t', ht', a, dxt, la, lk, rfl, tn, _⟩ := paired_get pr hx
      rw [ht] at ht'
      cases ht'
      walk_at "rn"
      obtain ⟨vb, tv⟩ := (tn.same s2).v
      exact ⟨_, _, tv.ins, rfl, dxt, la, lk, t, tn.same s2, fun v H3 s3 f3 => nt v H3 s3 f3⟩
    · intro D H2 ys nD s2 eD fa
      refine q ds D ys H2 rfl al (s1.trans s2) ?_ eD (fa.mono fun _ _ z => z.weak st)
      cases e : H D with
      | none => rfl
      | some o => exact absurd nD (st D (by rw [e]; exact nofun))
theorem paired_app {α β : Type} {R : α → β → Prop} {as cs : List α} {bs ds : List β} (h : Paired R as bs) (g : Paired R cs ds) : Paired R (as ++ cs) (bs ++ ds) := by
  induction h with
  | nil => exact g
  | cons h _ ih => exact .cons h ih
theorem kindsT_len (t : Tn) : (kindsT t).length ≤ 4 := by
  unfold kindsT
  have a := oneIf_len t.endless "endless"
  have b := oneIf_len (t.closed && (decide (t.behind.status = "closed") && !t.behind.answered)) "unanswered"
  have c := oneIf_len t.twice "twice"
  have d := oneIf_len (decide (t.event = some ("letter" : Str)) && decide (t.acted.length = 0)) "untouched"
  simp only [List.length_append]
  omega
theorem turns_kinds (ef : Str → Tk → Ef) (dsk : List Str) : ∀ (ds : List PyData) (tk : Option Tk), ∀ t ∈ turnsT ef dsk tk ds, t.kinds.length ≤ 4
  | [], _ => fun _ m => nomatch m
  | d :: r, tk => fun t m => by
    rcases List.mem_cons.mp m with rfl | m
    · exact kindsT_len _
    · exact turns_kinds ef dsk r _ t m
/-- faults tells a new list -/
def spFaults (K : PySem.W.Frag) (Z : Ad) : Sp := fun vs H Q E => ∃ ba v d dsk rs, vs = [.ref ba, v] ∧ BookIs K Z.Book H (.ref ba) dsk rs ∧ Dt K H v d ∧ okDeeds d ∧ refuse K Z H E (checkD dsk d) (∀ ds D ys H', d = .list ds → (∀ e ∈ ds, DeedIs dsk e) → Same H H' → H D = none → H' D = some (.lst ys) → FsAll K H H' ys ((wrongT rs dsk ds).map faultD) → Q (.ref D) H')
theorem d_faults (T : TX P K mg Z) : DefOk P w K mg base "faults" ["book", "deeds"] 16 (spFaults K Z) := by
  refine T.f_faults.ok sc_faults (by rintro _ _ _ _ ⟨_, _, _, _, _, rfl, _⟩; rfl) fun f cdv A outer s H vs Q E hr h => ?_
  obtain ⟨ba, v, d, dsk, rs, rfl, bk, hv, ok, q⟩ := h
  refine ⟨_, (pss_cons (ps_set (i := 2) sc_faults.nd rfl (by first | exact Or.inl rfl | exact Or.inr rfl) (pe_lst pa_nil)) (pss_cons (ps_for (passes_of rfl) rfl (kEnum (K := K) rfl T.b_enumerate (pa_cons (pe_callD (d__turns T) hr rfl (passes_call (takes_of rfl rfl rfl rfl) (fun _ _ _ _ h => h)) (pa_cons (pv 0) (pa_cons (pv 1) pa_nil))) pa_nil)) (kTup (K := K) (n := 2) rfl (pgs_cons (pg_name (i := 3) sc_faults.nd rfl (by first | exact Or.inl rfl | exact Or.inr rfl)) (pgs_cons (pg_name (i := 4) sc_faults.nd rfl (by first | exact Or.inl rfl | exact Or.inr rfl)) pgs_nil))) (pss_one (ps_expr (kBm (K := K) PySem.F.plainAttrs_list PySem.F.slot_list_extend PySem.F.type_list_extend mt_extend (pv 2) (pa_cons (pe_lc (own := [("kind", 5)]) rfl sc_faults.nd (kSeq (K := K) (kFld (K := K) (pv 4) rfl)) (blkOk_by (N := ["book", "deeds", "found", "index", "turn", "kind"]) (sc := defScope s_faults) (own := [("kind", 5)]) (by decide +kernel)) (fun _ _ _ _ _ => (pg_name (i := 5) sc_faults.nd rfl (by first | exact Or.inl rfl | exact Or.inr rfl))) (fun _ _ _ _ _ => pts_nil) (fun _ _ _ _ _ => (pe_tup (pa_cons (pv 5) (pa_cons (pv 3) pa_nil))))) pa_nil))))) (pss_one (ps_ret (pv 2))))), ?_⟩
  walk_at "rn"
  refine ⟨by decide +kernel, fun fl nfl => ?_⟩
  have s1 : Same H (upd H fl (.lst [])) := Same.put (Same.refl H) nfl
  have e1 : upd H fl (.lst []) fl = some (.lst []) := upd_same
  generalize eG : upd H fl (.lst []) = H1 at s1 e1 ⊢
  have stH : ∀ b, H b ≠ none → H1 b ≠ none := fun b z => by
    cases e : H b with
    | none => exact absurd e z
    | some o => rw [s1 _ _ e]; exact nofun
  refine for_el ?_
  walk_at "rn"
  refine ⟨ba, v, d, dsk, rs, rfl, bk.same s1, hv.same s1, ok, ?_⟩
  cases hc : checkD dsk d with
  | noDeed i =>
    rw [hc] at q
    have q : NoRuleE K Z.NoDeed H E (.int (i : Nat)) := q
    exact fun H' a v s h1 h2 => q H' a v (s1.trans s) h1 h2
  | noTicket =>
    rw [hc] at q
    have q : NoRuleE K Z.NoTicket H E (.int 0) := q
    exact fun H' a v s h1 h2 => q H' a v (s1.trans s) h1 h2
  | ok =>
    rw [hc] at q
    intro ds H2 l us ed al s2 nl el pr
    subst ed
    have q : ∀ ds2 D ys H', PyData.list ds = .list ds2 → (∀ e ∈ ds2, DeedIs dsk e) → Same H H' → H D = none → H' D = some (.lst ys) → FsAll K H H' ys ((wrongT rs dsk ds2).map faultD) → Q (.ref D) H' := q
    have ln := pr.length
    have nlf : l ≠ fl := fun c => by rw [c, e1] at nl; cases nl
    have e2 := s2 _ _ e1
    refine forElx (xs := us) (.inl (.inl el)) (fun i σ H' => (∃ o1 o2 o3, σ = [some (.ref ba), some v, some (.ref fl), o1, o2, o3]) ∧ Keep (fun b => b = fl) H2 H' ∧ ∃ ys, H' fl = some (.lst ys) ∧ ∃ ps : List (Str × Nat), FsAll K H1 H' ys (ps.map faultD) ∧ ps ++ faultsOf i ((turnsT (effT rs) dsk none ds).drop i) = wrongT rs dsk ds ∧ ps.length ≤ 4 * i) ⟨⟨_, _, _, rfl⟩, fun b o _ e => e, [], e2, [], .nil, rfl, Nat.le_refl _⟩ (fun i σ H' _ z => .inl (.inl (z.2.1 _ _ nlf el))) ?_ ?_
    · rintro i y σ H3 N hy ⟨⟨o1, o2, o3, rfl⟩, k3, ys, e3, ps, fa, pq, lp⟩ nN
      obtain ⟨t, ht, a, dxt, la, lk, rfl, tn, nla, nlk⟩ := paired_get pr hy
      have s34 : Same H3 (upd H3 N (.tup [.int (i : Nat), .ref a])) := Same.put (Same.refl H3) nN
      have eN : upd H3 N (.tup [.int (i : Nat), .ref a]) N = some (.tup [.int (i : Nat), .ref a]) := upd_same
      generalize upd H3 N (.tup [.int (i : Nat), .ref a]) = H4 at s34 eN ⊢
      walk_at "rn"
      have nlaf : la ≠ fl := fun c => by rw [c, e1] at nla; cases nla
      have nlkf : lk ≠ fl := fun c => by rw [c, e1] at nlk; cases nlk
      have naf : a ≠ fl := fun c => by
        obtain ⟨vb, tv⟩ := tn.v
        have := tv.ins
        rw [c, e2] at this
        cases this
      have tp23 : Tps K H2 H3 := tps_of k3 fun b z => .inr (.inl ⟨_, z ▸ e2⟩)
      have tn3 := tn.keep _ k3 naf nlaf nlkf tp23
      obtain ⟨vb, tv⟩ := (tn3.same s34).v
      have e4 := s34 _ _ e3
      refine ⟨_, .inl (.inl eN), rfl, _, _, rfl, _, _, rfl, rfl, .inl ⟨rfl, _, .inl (.inl e4)⟩, ?_⟩
      refine lc_l ?_
      walk_at "rn"
      refine ⟨_, _, _, tv.ins, T.cl_Turn, T.na_Turn_kinds, _, rfl, ?_⟩
      have tm := List.mem_of_getElem? ht
      have k4 := turns_kinds _ _ _ _ t tm
      refine lcFsL (fun H' s' => .inl (.inl (s' _ _ tv.kd))) (by rw [List.length_map]; exact Nat.lt_of_le_of_lt k4 (by decide)) (fun j => faultD ((t.kinds[j]?).getD "", i)) ?_ ?_
      · intro j x H5 N hx s5 nt
        rw [List.getElem?_map] at hx
        obtain ⟨kd, hkd, rfl⟩ := Option.map_eq_some_iff.mp hx
        walk_at "rn"
        refine ⟨by decide +kernel, ?_⟩
        walk_at "lay"
        rename_i p H6 s6 n6 e6
        refine nt _ H6 s6 ?_
        rw [hkd]
        exact fs_tup e6 (.cons (fs_str _) (.cons (fs_int _) .nil))
      · intro D H5 zs nD s5 eD fz
        have e5 := s5 _ _ e4
        have nfD : fl ≠ D := fun c => by rw [c] at e4; rw [e4] at nD; cases nD
        have lz : zs.length = t.kinds.length := by rw [fz.length, List.length_map, List.length_range, List.length_map]
        have ly : ys.length = ps.length := by rw [fa.length, List.length_map]
        have lds := (ok ds rfl).1
        have tl := turns_len (effT rs) dsk ds none
        have hi : i < us.length := (List.getElem?_eq_some_iff.mp hy).1
        have eqz : (List.range (t.kinds.map V.str).length).map (fun j => faultD ((t.kinds[j]?).getD "", i)) = (t.kinds.map fun k => (k, i)).map faultD := by
          rw [List.length_map]
          refine List.ext_getElem (by simp) fun j h1 h2 => ?_
          have h : j < t.kinds.length := by simpa using h2
          simp [List.getElem?_eq_getElem h]
        rw [eqz] at fz
        refine ⟨fl, D, ys, zs, rfl, rfl, e5, eD, Nat.le_trans (show ys.length + zs.length ≤ 10000 by omega) (by decide), ⟨_, rfl⟩, fun b o nb e => ?_, _, upd_same, ps ++ t.kinds.map (fun k => (k, i)), ?_, ?_, ?_⟩
        · rw [upd_ne nb]
          exact s5 _ _ (s34 _ _ (k3 _ _ nb e))
        · have k6 : Keep (fun b => b = fl) H5 (upd H5 fl (.lst (ys ++ zs))) := fun b o nb e => by rw [upd_ne nb]; exact e
          have sf : ∀ b, b = fl → H1 b ≠ none ∧ Soft H5 b := fun b z => by
            rw [z, e1]
            exact ⟨nofun, .inr (.inl ⟨_, e5⟩)⟩
          have st14 : ∀ b, H1 b ≠ none → H4 b ≠ none := fun b z => by
            by_cases c : b = fl
            · rw [c, e4]; exact nofun
            · cases e : H1 b with
              | none => exact absurd e z
              | some o => rw [s34 _ _ (k3 _ _ c (s2 _ _ e))]; exact nofun
          rw [List.map_append]
          exact paired_app (fa.mono fun _ _ z => (z.same (s34.trans s5)).later k6 sf) (fz.mono fun _ _ z => (z.weak st14).later k6 sf)
        · rw [← pq]
          have dr : (turnsT (effT rs) dsk none ds).drop i = t :: (turnsT (effT rs) dsk none ds).drop (i + 1) := by
            obtain ⟨hi, e⟩ := List.getElem?_eq_some_iff.mp ht
            rw [← e]
            exact List.drop_eq_getElem_cons hi
          rw [dr, List.append_assoc]
          rfl
        · rw [List.length_append, List.length_map]
          omega
    · rintro σ H3 ⟨⟨o1, o2, o3, rfl⟩, k3, ys, e3, ps, fa, pq, lp⟩
      walk_at "rn"
      rw [ln, List.drop_length] at pq
      rw [show faultsOf _ [] = [] from rfl, List.append_nil] at pq
      subst pq
      exact q ds _ _ H3 rfl al (fun b o e => k3 _ _ (ne_of_none e nfl) (s2 _ _ (s1 _ _ e))) nfl e3 (fa.mono fun _ _ z => z.weak stH)
end
end Ld

set_option Elab.async false
set_option linter.all false
set_option maxRecDepth 100000
set_option maxHeartbeats 4000000
/-! Book(..) of good things (also within MadeA: a chain has one of the two). -/
namespace Ld
open PySem PySem.Spec PyProof.Rows L2
local macro_rules | `(tactic| walk_at "rd") => `(tactic| try simp only [tSeq, tNext, tRet, tRetN, tIfS, tTest, tB, tAnd, tOr, tNot, tAndV, tOrV, tNotV, tOp, tUn, tC, tVar, tCons, tNil, tCall, tCB, tAsg, tDrop, tChain, tIf, tYes, tBreak, tCont, tNever, tFld, sFld, sFldAug, tMeth, tMake, tRaiseF, tMkF, tM1, tOwn2S, tOwnIxS, tXf, tRevL, tMethS, tTup, tLst, tSl, tPart, tNoPart, tPar, tBM, tBM0, tLenSetT, tAug, gName, gTup, gCons, gNil, gStar2, gFld, gSub, rI0, rI, rU, rIxU, rIxS, rIn, rInU, rAddU, rSlU, rLenU, rTupU, rListU, rRep, rEqU_ss, rEqU_ii, rEqU_bb, rEqU_r, rNeU_ss, rNeU_ii, rNeU_bb, rNeU_r, cxOf, L2.start, wipe, List.map_cons, List.map_nil, List.length_cons, List.length_nil, List.replicate, List.cons_append, List.nil_append, List.append_nil, Nat.reduceSub, Nat.reduceAdd, List.getElem?_cons_zero, List.getElem?_cons_succ, List.set_cons_zero, List.set_cons_succ, Option.some.injEq, exists_eq_left', exists_eq_left, exists_eq, exists_and_left, V.bl.injEq, V.int.injEq, V.str.injEq, V.ref.injEq, V.ty.injEq, reduceCtorEq, false_and, and_false, exists_false, false_or, or_false, true_and, and_true, if_true, if_false, Bool.false_eq_true, ite_true, ite_false, reduceIte, decide_true, decide_false, Bool.not_true, Bool.not_false, Bool.not_eq_true, Bool.true_and, Bool.false_and, Bool.and_true, Bool.and_false, List.cons.injEq, and_assoc])
local macro_rules | `(tactic| walk_at "rn") => `(tactic| try simp only [tSeq, tNext, tRet, tRetN, tIfS, tTest, tB, tAnd, tOr, tNot, tAndV, tOrV, tNotV, tOp, tUn, tC, tVar, tCons, tNil, tCall, tCB, tAsg, tDrop, tChain, tIf, tYes, tBreak, tCont, tNever, tFld, sFld, sFldAug, tMeth, tMake, tRaiseF, tMkF, tM1, tOwn2S, tOwnIxS, tXf, tRevL, tMethS, tCallS, tMethK1, tDNewK, tRevT, Ends.cut, tDGet, rNotN, tNGet, sNPut, tNNew, tTup, tLst, tSl, tPart, tNoPart, tPar, tBM, tBM0, tLenSetT, tAug, gName, gTup, gCons, gNil, gStar2, gFld, gSub, rI0, rI, rU, rAddU_ii, tFor_rng, tLc_rng, rRep, rEqU_ss, rEqU_ii, rEqU_bb, rEqU_r, rNeU_ss, rNeU_ii, rNeU_bb, rNeU_r, cxOf, L2.start, wipe, List.map_cons, List.map_nil, List.length_cons, List.length_nil, List.replicate, List.cons_append, List.nil_append, List.append_nil, Nat.reduceSub, Nat.reduceAdd, List.getElem?_cons_zero, List.getElem?_cons_succ, List.set_cons_zero, List.set_cons_succ, Option.some.injEq, exists_eq_left', exists_eq_left, exists_eq, exists_and_left, V.bl.injEq, V.int.injEq, V.str.injEq, V.ref.injEq, V.ty.injEq, reduceCtorEq, false_and, and_false, exists_false, false_or, or_false, true_and, and_true, if_true, if_false, Bool.false_eq_true, ite_true, ite_false, reduceIte, decide_true, decide_false, Bool.not_true, Bool.not_false, Bool.not_eq_true, Bool.true_and, Bool.false_and, Bool.and_true, Bool.and_false, List.cons.injEq, and_assoc])
local macro_rules | `(tactic| walk_at "lay") => `(tactic| (apply lay_new; intro l h qq s n e; rw [← qq]; clear qq))
section
variable {P : Program} {w : World} {K : PySem.W.Frag} {mg : Str → Option Value} {base : Heap} {Z : Ad}
theorem firstBad_of (dsk : List Str) : ∀ (rs : List PyData) (i : Nat), (rs ≠ [] → i + rs.length ≤ 8) → (∀ e ∈ rs, isRuleD dsk e = true) → firstBad dsk i rs = none
  | [], _, _, _ => rfl
  | r :: rs, i, h, g => by
    have h := h (by simp)
    simp only [List.length_cons] at h
    unfold firstBad
    rw [if_neg (by rw [g r List.mem_cons_self]; simp; omega)]
    exact firstBad_of dsk rs (i + 1) (fun _ => by omega) fun e m => g e (List.mem_cons_of_mem _ m)
theorem good_of {dsk : List Str} {rs : List PyData} (h : areDesksD (.tuple (dsk.map PyData.str)) = true) (l : rs.length ≤ 8) (g : ∀ e ∈ rs, isRuleD dsk e = true) : goodBook dsk rs := ⟨h, firstBad_of dsk rs 0 (fun _ => by omega) g⟩
theorem good_all {dsk : List Str} {rs : List PyData} (g : goodBook dsk rs) : ∀ e ∈ rs, isRuleD dsk e = true := (firstBad_none dsk rs 0 g.2).2
theorem book_ok {dsk : List Str} {rs : List PyData} (g : goodBook dsk rs) : bookD (.tuple (dsk.map PyData.str)) (.tuple rs) = .ok dsk rs := by
  unfold bookD
  have e : desksOf (.tuple (dsk.map PyData.str)) = dsk := strs_map dsk
  rw [if_pos g.1, e]
  dsimp only
  rw [g.2]
theorem good_okr {dsk : List Str} {rs : List PyData} (g : goodBook dsk rs) : okRules (.tuple rs) := fun rs2 e => by
  cases e
  exact ⟨by have := good_len g; omega, good_rules g⟩
/-- Book(..) of good things -/
theorem make_good {H : Hp} {C ND NR : Addr} {vd vr : V} {dsk : List Str} {rs : List PyData} {Q : Addr → Hp → Prop} {E : XK} (hd : Dp K H vd (.tuple (dsk.map PyData.str))) (hr : Dp K H vr (.tuple rs)) (g : goodBook dsk rs) (q : ∀ x H', Same H H' → BookIs K C H' (.ref x) dsk rs → Q x H') (x dx : Addr) (n1 : H x = none) (n2 : H dx = none) (ne : dx ≠ x) :
    spInit K C ND NR [.ref x, vd, vr] (upd (upd H dx (.own x)) x (.ins C dx [])) (fun v H2 => v = .non ∧ Q x H2) E :=
  madeA hd hr (good_desks g) (good_okr g) (by
    rw [book_ok g]
    intro b H' s bk a e
    subst e
    exact q a H' s bk) x dx n1 n2 ne
end
end Ld

set_option Elab.async false
set_option linter.all false
set_option maxRecDepth 100000
set_option maxHeartbeats 4000000
namespace Ld
open PySem PySem.Spec PyProof.Rows L2
local macro_rules | `(tactic| walk_at "rd") => `(tactic| try simp only [tSeq, tNext, tRet, tRetN, tIfS, tTest, tB, tAnd, tOr, tNot, tAndV, tOrV, tNotV, tOp, tUn, tC, tVar, tCons, tNil, tCall, tCB, tAsg, tDrop, tChain, tIf, tYes, tBreak, tCont, tNever, tFld, sFld, sFldAug, tMeth, tMake, tRaiseF, tMkF, tM1, tOwn2S, tOwnIxS, tXf, tRevL, tMethS, tTup, tLst, tSl, tPart, tNoPart, tPar, tBM, tBM0, tLenSetT, tAug, gName, gTup, gCons, gNil, gStar2, gFld, gSub, rI0, rI, rU, rIxU, rIxS, rIn, rInU, rAddU, rSlU, rLenU, rTupU, rListU, rRep, rEqU_ss, rEqU_ii, rEqU_bb, rEqU_r, rNeU_ss, rNeU_ii, rNeU_bb, rNeU_r, cxOf, L2.start, wipe, List.map_cons, List.map_nil, List.length_cons, List.length_nil, List.replicate, List.cons_append, List.nil_append, List.append_nil, Nat.reduceSub, Nat.reduceAdd, List.getElem?_cons_zero, List.getElem?_cons_succ, List.set_cons_zero, List.set_cons_succ, Option.some.injEq, exists_eq_left', exists_eq_left, exists_eq, exists_and_left, V.bl.injEq, V.int.injEq, V.str.injEq, V.ref.injEq, V.ty.injEq, reduceCtorEq, false_and, and_false, exists_false, false_or, or_false, true_and, and_true, if_true, if_false, Bool.false_eq_true, ite_true, ite_false, reduceIte, decide_true, decide_false, Bool.not_true, Bool.not_false, Bool.not_eq_true, Bool.true_and, Bool.false_and, Bool.and_true, Bool.and_false, List.cons.injEq, and_assoc])
local macro_rules | `(tactic| walk_at "rn") => `(tactic| try simp only [tSeq, tNext, tRet, tRetN, tIfS, tTest, tB, tAnd, tOr, tNot, tAndV, tOrV, tNotV, tOp, tUn, tC, tVar, tCons, tNil, tCall, tCB, tAsg, tDrop, tChain, tIf, tYes, tBreak, tCont, tNever, tFld, sFld, sFldAug, tMeth, tMake, tRaiseF, tMkF, tM1, tOwn2S, tOwnIxS, tXf, tRevL, tMethS, tCallS, tMethK1, tDNewK, tRevT, Ends.cut, tDGet, rNotN, tNGet, sNPut, tNNew, tTup, tLst, tSl, tPart, tNoPart, tPar, tBM, tBM0, tLenSetT, tAug, gName, gTup, gCons, gNil, gStar2, gFld, gSub, rI0, rI, rU, rAddU_ii, tFor_rng, tLc_rng, rRep, rEqU_ss, rEqU_ii, rEqU_bb, rEqU_r, rNeU_ss, rNeU_ii, rNeU_bb, rNeU_r, cxOf, L2.start, wipe, List.map_cons, List.map_nil, List.length_cons, List.length_nil, List.replicate, List.cons_append, List.nil_append, List.append_nil, Nat.reduceSub, Nat.reduceAdd, List.getElem?_cons_zero, List.getElem?_cons_succ, List.set_cons_zero, List.set_cons_succ, Option.some.injEq, exists_eq_left', exists_eq_left, exists_eq, exists_and_left, V.bl.injEq, V.int.injEq, V.str.injEq, V.ref.injEq, V.ty.injEq, reduceCtorEq, false_and, and_false, exists_false, false_or, or_false, true_and, and_true, if_true, if_false, Bool.false_eq_true, ite_true, ite_false, reduceIte, decide_true, decide_false, Bool.not_true, Bool.not_false, Bool.not_eq_true, Bool.true_and, Bool.false_and, Bool.and_true, Bool.and_false, List.cons.injEq, and_assoc])
local macro_rules | `(tactic| walk_at "lay") => `(tactic| (apply lay_new; intro l h qq s n e; rw [← qq]; clear qq))
section
variable {P : Program} {w : World} {K : PySem.W.Frag} {mg : Str → Option Value} {base : Heap} {Z : Ad}
theorem d__law_dip (T : TX P K mg Z) : DefOk P w K mg base "_law_dip" ["pot", "many"] 1 spDip := by
  refine T.f__law_dip.ok sc__law_dip (by rintro _ _ _ _ ⟨_, _, _, rfl, _⟩; rfl) fun f cdv A outer s H vs Q E hr h => ?_
  obtain ⟨p, many, n, rfl, ⟨a, b, c, e, a0, b0, b1, c0, c1⟩, hn, m0, m1, q⟩ := h
  refine ⟨_, (pss_cons (ps_if (pt_cmpR op_gt (pe_ix (kIx (K := K)) (pv 0) pe_int (fun _ _ => rfl)) pe_int (nomark _)) (pss_cons (ps_set (i := 2) sc__law_dip.nd rfl (by first | exact Or.inl rfl | exact Or.inr rfl) (pe_op op_mod (pe_callTy call_int1 (by rfl) T.b_int (by decide +kernel) (pa_cons (pe_ix (kIx (K := K)) (pv 0) pe_int (fun _ _ => rfl)) pa_nil)) (pv 1))) (pss_cons (ps_asg (pe_op op_fdivW (pe_ix (kIx (K := K)) (pv 0) pe_int (fun _ _ => rfl)) (pv 1)) (pg_sub (pv 0) pe_int set_list)) (pss_one (ps_ret (pv 2))))) pss_nil) (pss_cons (ps_asg (pe_op (kAdd (K := K)) (pe_ix (kIx (K := K)) (pv 0) pe_int (fun _ _ => rfl)) pe_int) (pg_sub (pv 0) pe_int set_list)) (pss_cons (ps_set (i := 3) sc__law_dip.nd rfl (by first | exact Or.inl rfl | exact Or.inr rfl) (pe_op op_mod (pe_callTy call_int1 (by rfl) T.b_int (by decide +kernel) (pa_cons (pe_op uPow (pe_op (kAdd (K := K)) (pe_ix (kIx (K := K)) (pv 0) pe_int (fun _ _ => rfl)) (pe_op uMul pe_int (pe_ix (kIx (K := K)) (pv 0) pe_int (fun _ _ => rfl)))) pe_int) pa_nil)) (pe_op (kAdd (K := K)) (pe_op uPow pe_int pe_int) pe_int))) (pss_cons (ps_set (i := 3) sc__law_dip.nd rfl (by first | exact Or.inl rfl | exact Or.inr rfl) (pe_op op_mod (pe_callTy call_int1 (by rfl) T.b_int (by decide +kernel) (pa_cons (pe_op uPow (pe_op (kAdd (K := K)) (pv 3) (pe_op uMul pe_int (pe_ix (kIx (K := K)) (pv 0) pe_int (fun _ _ => rfl)))) pe_int) pa_nil)) (pe_op (kAdd (K := K)) (pe_op uPow pe_int pe_int) pe_int))) (pss_one (ps_ret (pe_op op_mod (pe_callTy call_int1 (by rfl) T.b_int (by decide +kernel) (pa_cons (pe_op op_fdivW (pv 3) (pe_op uPow pe_int pe_int)) pa_nil)) (pv 1)))))))), ?_⟩
  walk_at "rn"
  have ix0 : ∀ {H1 : Hp} {x y z : Int} {Q : VK}, H1 p = some (.lst [.int x, .int y, .int z]) → Q (.int x) H1 → rIxU K (.ref p) (.int 0) H1 Q := fun e q => ix_l (.inl (.inl e)) rfl q
  have ix1 : ∀ {H1 : Hp} {x y z : Int} {Q : VK}, H1 p = some (.lst [.int x, .int y, .int z]) → Q (.int y) H1 → rIxU K (.ref p) (.int 1) H1 Q := fun e q => ix_l (.inl (.inl e)) rfl q
  have ix2 : ∀ {H1 : Hp} {x y z : Int} {Q : VK}, H1 p = some (.lst [.int x, .int y, .int z]) → Q (.int z) H1 → rIxU K (.ref p) (.int 2) H1 Q := fun e q => ix_l (.inl (.inl e)) rfl q
  have put : ∀ {o : HO}, o ≠ .tup [] → Gr p H (upd H p o) := fun _ => ⟨fun b o nb e => by rw [upd_ne nb]; exact e, fun _ => by rw [upd_same]; exact fun z => nomatch z⟩
  refine ix0 e ⟨_, rfl, ?_⟩
  by_cases ca : 0 < a
  · rw [if_pos (decide_eq_true ca)]
    refine ix0 e (.inl ⟨_, rfl, m0, ix0 e ⟨_, rfl, cdiv m0 (by omega), p, _, 0, 0, rfl, rfl, e, rfl, ?_⟩⟩)
    refine q _ _ (Int.emod_nonneg _ (by omega)) (Int.emod_lt_of_pos _ m0) (put (by simp)) ⟨a / many, b, c, upd_same, Int.ediv_nonneg a0 (by omega), b0, b1, c0, by omega⟩
  · rw [if_neg (by simpa using ca)]
    refine ix2 e ?_
    walk_at "rn"
    refine ⟨p, _, 2, 2, rfl, rfl, e, rfl, ?_⟩
    have e2 : upd H p (.lst ([V.int a, .int b, .int c].set 2 (.int (c + 1)))) p = some (.lst [.int a, .int b, .int (c + 1)]) := upd_same
    refine ix1 e2 (ix2 e2 ⟨_, rfl, cmul (by omega) (by omega) (by omega) (by omega), ?_⟩)
    walk_at "rn"
    have c61 : c + 1 ≤ 2 ^ 61 := by omega
    refine ⟨cpow3a b0 b1 (by decide) (by decide) (by omega) c61, cpowc (by decide) (by decide) (by decide), by decide +kernel, ix2 e2 ⟨_, rfl, cmul (by decide) (by decide) (by omega) (by omega), cpow3m (by decide +kernel) (by decide +kernel) (by decide) (by decide) (by omega) c61, cpowc (by decide) (by decide) (by decide), by decide +kernel, cpowc (by decide) (by decide) (by decide), cdiv (by decide +kernel) (by decide +kernel), m0, ?_⟩⟩
    exact q _ _ (Int.emod_nonneg _ (by omega)) (Int.emod_lt_of_pos _ m0) (put (by simp)) ⟨a, b, c + 1, upd_same, a0, b0, b1, by omega, by omega⟩
def spPot (K : PySem.W.Frag) : Sp := fun vs H Q _ => ∃ (a : Addr) (ns : List Int) (k : Nat), vs = [.ref a, .int k] ∧ SqL K H a (ns.map V.int) ∧ k ≤ 1000 ∧ ∀ p H', Same H H' → H p = none → PotAt H' p 0 → Q (.ref p) H'
theorem d__law_pot (T : TX P K mg Z) : DefOk P w K mg base "_law_pot" ["script", "k"] 1 (spPot K) := by
  refine T.f__law_pot.ok sc__law_pot (by rintro _ _ _ _ ⟨_, _, _, rfl, _⟩; rfl) fun f cdv A outer s H vs Q E hr h => ?_
  obtain ⟨a, ns, k, rfl, hs, hk, q⟩ := h
  refine ⟨_, (pss_cons (ps_set (i := 2) sc__law_pot.nd rfl (by first | exact Or.inl rfl | exact Or.inr rfl) pe_int) (pss_cons (ps_if (pt_cmpR op_lt (pv 1) (pe_callB (kLen (K := K)) (by rfl) T.b_len PySem.boot_len (pa_cons (pv 0) pa_nil)) (nomark _)) (pss_one (ps_set (i := 2) sc__law_pot.nd rfl (by first | exact Or.inl rfl | exact Or.inr rfl) (pe_callB call_abs (by rfl) T.b_abs (by decide +kernel) (pa_cons (pe_callTy call_int1 (by rfl) T.b_int (by decide +kernel) (pa_cons (pe_ix (kIx (K := K)) (pv 0) (pv 1) (fun _ _ => rfl)) pa_nil)) pa_nil)))) pss_nil) (pss_one (ps_ret (pe_lst (pa_cons (pe_callB (call_max2 rfl) (by rfl) T.b_max (by decide +kernel) (pa_cons pe_int (pa_cons (pe_op op_sub (pv 2) (pe_op uPow pe_int pe_int)) pa_nil))) (pa_cons (pe_op (kAdd (K := K)) (pe_op op_mod (pe_callTy call_int1 (by rfl) T.b_int (by decide +kernel) (pa_cons (pv 2) pa_nil)) (pe_op (kAdd (K := K)) (pe_op uPow pe_int pe_int) pe_int)) (pe_op uMul pe_int (pv 1))) (pa_cons pe_int pa_nil)))))))), ?_⟩
  walk_at "rn"
  refine len_l hs ⟨_, rfl, ?_⟩
  rw [List.length_map]
  have lay : ∀ p, H p = none → ∀ x y : Int, 0 ≤ x → (0 ≤ y ∧ y < 2 ^ 200) → Q (.ref p) (upd H p (.lst [.int x, .int y, .int 0])) := fun p np x y x0 y0 => q p _ (Same.put (Same.refl H) np) np ⟨x, y, 0, upd_same, x0, y0.1, y0.2, by decide, by omega⟩
  by_cases c : k < ns.length
  · rw [if_pos (decide_eq_true (by omega))]
    refine ix_l hs (atI_nat (ints_at c)) (.inl ⟨_, rfl, cpowc (by decide) (by decide) (by decide), cpowc (by decide) (by decide) (by decide), by decide +kernel, cmul (by decide) (by decide) (by omega) (by omega), by decide +kernel, fun p np => ?_⟩)
    exact lay p np _ _ (max0 _) (modk (by decide +kernel) (by decide +kernel) (by decide) (by decide) hk)
  · rw [if_neg (by simp; omega)]
    refine ⟨cpowc (by decide) (by decide) (by decide), cpowc (by decide) (by decide) (by decide), by decide +kernel, cmul (by decide) (by decide) (by omega) (by omega), by decide +kernel, fun p np => ?_⟩
    exact lay p np _ _ (max0 _) (modk (by decide +kernel) (by decide +kernel) (by decide) (by decide) hk)
def spName : Sp := fun vs H Q _ => ∃ (p : Addr) (n : Nat), vs = [.ref p] ∧ PotAt H p n ∧ n + 16 < 2 ^ 60 ∧ ∀ z H', isNameS z = true → Gr p H H' → PotAt H' p (n + 16) → Q (.str z) H'
theorem d__law_name (T : TX P K mg Z) : DefOk P w K mg base "_law_name" ["pot"] 2 spName := by
  refine T.f__law_name.ok sc__law_name (by rintro _ _ _ _ ⟨_, _, rfl, _⟩; rfl) fun f cdv A outer s H vs Q E hr h => ?_
  obtain ⟨p, n, rfl, hp, hn, q⟩ := h
  refine ⟨_, (pss_cons (ps_set (i := 1) sc__law_name.nd rfl (by first | exact Or.inl rfl | exact Or.inr rfl) pe_str) (pss_cons (ps_set (i := 2) sc__law_name.nd rfl (by first | exact Or.inl rfl | exact Or.inr rfl) (pe_op (kAdd (K := K)) pe_int (pe_callD (d__law_dip T) hr rfl passL (pa_cons (pv 0) (pa_cons pe_int pa_nil))))) (pss_one (ps_ret (kJoin (K := K) pe_str (pe_lc (own := [("k", 3)]) rfl sc__law_name.nd (pi_range1 rfl T.b_range (pa_cons (pv 2) pa_nil)) (blkOk_by (N := ["pot", "letters", "size", "k"]) (sc := defScope s__law_name) (own := [("k", 3)]) (by decide +kernel)) (fun _ _ _ _ _ => (pg_name (i := 3) sc__law_name.nd rfl (by first | exact Or.inl rfl | exact Or.inr rfl))) (fun _ _ _ _ _ => pts_nil) (fun _ _ _ _ _ => (pe_ix (kIx (K := K)) (pv 1) (pe_callD (d__law_dip T) hr rfl passL (pa_cons (pv 0) (pa_cons pe_int pa_nil))) (fun _ _ => rfl))))))))), ?_⟩
  walk_at "rn"
  refine ⟨p, _, n, rfl, hp, by omega, by decide, by decide, fun r2 H2 r20 r21 g2 p2 => ?_⟩
  obtain ⟨m, rfl⟩ := Int.eq_ofNat_of_zero_le r20
  have em : (1 : Int) + ((m : Nat) : Int) = ((1 + m : Nat) : Int) := by omega
  walk_at "rn"
  rw [em]
  refine ⟨⟨_, rfl⟩, ?_⟩
  refine lcDraw (K := K) 1 isSign (n := 1 + m) (by rw [sizeLine_eq]; omega) p2 ?_ ?_
  · intro i H' N hi g' p' q'
    walk_at "rn"
    refine ⟨p, _, _, rfl, p', by omega, by decide, by decide, fun r3 H5 r30 r31 g5 p5 => ?_⟩
    refine ix_sign (z := lettersS) r30 (letters26 r31) (by decide +kernel) fun c hc => ?_
    exact q' _ (.str (sign c)) H5 g5 p5 (Fd.str _) ⟨c, hc, rfl⟩
  · intro D H' ys ds nD g' eD p' ld F gd
    obtain ⟨cs, rfl, lc, mc⟩ := signs_of F gd
    refine ⟨_, D, cs.map sign, rfl, rfl, .inl (.inl (.inl eD)), ?_, q _ H' (name_of (by omega) (by omega) mc) (g2.trans g') (p'.mono (by omega))⟩
    rw [sum_signs, List.length_map]
    show cs.length + cs.length * 0 ≤ _
    omega
def spDesks (K : PySem.W.Frag) : Sp := fun vs H Q _ => ∃ (p : Addr) (n least : Nat), vs = [.ref p, .int (least : Nat)] ∧ 1 ≤ least ∧ least ≤ 4 ∧ PotAt H p n ∧ n + 128 < 2 ^ 60 ∧ ∀ v (dsk : List Str) H', least ≤ dsk.length → areDesksD (.tuple (dsk.map PyData.str)) = true → Fd K H H' v (.tuple (dsk.map PyData.str)) → Gr p H H' → PotAt H' p (n + 128) → Q v H'
theorem d__law_desks (T : TX P K mg Z) : DefOk P w K mg base "_law_desks" ["pot", "least"] 3 (spDesks K) := by
  refine T.f__law_desks.ok sc__law_desks (by rintro _ _ _ _ ⟨_, _, _, rfl, _⟩; rfl) fun f cdv A outer s H vs Q E hr h => ?_
  obtain ⟨p, n, least, rfl, ls1, ls4, hp, hn, q⟩ := h
  refine ⟨_, (pss_cons (ps_set (i := 2) sc__law_desks.nd rfl (by first | exact Or.inl rfl | exact Or.inr rfl) (pe_lst pa_nil)) (pss_cons (ps_for (passes_of rfl) rfl (pi_range1 rfl T.b_range (pa_cons (pe_op (kAdd (K := K)) (pv 1) (pe_callD (d__law_dip T) hr rfl passL (pa_cons (pv 0) (pa_cons (pe_op op_sub pe_int (pv 1)) pa_nil)))) pa_nil)) (pg_name (i := 3) sc__law_desks.nd rfl (by first | exact Or.inl rfl | exact Or.inr rfl)) (pss_cons (ps_set (i := 4) sc__law_desks.nd rfl (by first | exact Or.inl rfl | exact Or.inr rfl) (pe_callD (d__law_name T) hr rfl passL (pa_cons (pv 0) pa_nil))) (pss_cons (ps_if (pt_cmpR (kIn (K := K)) (pv 4) (pv 2) (by rfl)) (pss_one (ps_set (i := 4) sc__law_desks.nd rfl (by first | exact Or.inl rfl | exact Or.inr rfl) (pe_ix (kIx (K := K)) (pe_lc (own := [("one", 5)]) rfl sc__law_desks.nd (kSeq (K := K) (pe_lst (pa_cons pe_str (pa_cons pe_str (pa_cons pe_str (pa_cons pe_str pa_nil)))))) (blkOk_by (N := ["pot", "least", "found", "k", "name", "one"]) (sc := defScope s__law_desks) (own := [("one", 5)]) (by decide +kernel)) (fun _ _ _ _ _ => (pg_name (i := 5) sc__law_desks.nd rfl (by first | exact Or.inl rfl | exact Or.inr rfl))) (fun _ _ _ _ _ => (pts_one (pt_cmpR (kNotIn (K := K)) (pv 5) (pv 2) (by rfl)))) (fun _ _ _ _ _ => (pv 5))) pe_int (fun _ _ => rfl)))) pss_nil) (pss_one (ps_expr (kBm (K := K) PySem.F.plainAttrs_list PySem.F.slot_list_append PySem.F.type_list_append mt_append (pv 2) (pa_cons (pv 4) pa_nil))))))) (pss_one (ps_ret (pe_callTy (kTuple (K := K)) (by rfl) T.b_tuple (by decide +kernel) (pa_cons (pv 2) pa_nil)))))), ?_⟩
  walk_at "rn"
  refine ⟨by decide +kernel, ?_⟩
  walk_at "lay"
  rename_i l H1 s1 n1 e1
  refine ⟨p, _, n, rfl, hp.same s1, by omega, by omega, by omega, fun r H2 r0 r1 g2 p2 => ?_⟩
  obtain ⟨m, rfl⟩ := Int.eq_ofNat_of_zero_le r0
  walk_at "rn"
  have em : ((least : Nat) : Int) + ((m : Nat) : Int) = ((least + m : Nat) : Int) := by omega
  rw [em]
  have lp : l ≠ p := fun z => hp.ne (z ▸ n1)
  have g02 : Gr p H H2 := (Gr.of s1).trans g2
  refine forR (by rw [sizeLine_eq]; omega) (fun i σ H' => (∃ u v w, σ = [some (.ref p), some (.int (least : Nat)), some (.ref l), u, v, w]) ∧ Gr p H H' ∧ PotAt H' p (n + 1 + i * 16) ∧ ∃ zs : List Str, H' l = some (.lst (zs.map V.str)) ∧ zs.length = i ∧ (∀ z ∈ zs, isNameS z = true) ∧ zs.Nodup) ⟨⟨_, _, _, rfl⟩, g02, p2, [], g2.keep l _ lp e1, rfl, (by simp), List.nodup_nil⟩ ?_ ?_
  · rintro i σ H3 hi ⟨⟨u, v, w, rfl⟩, g3, p3, zs, e3, lz, nz, dz⟩
    walk_at "rn"
    refine ⟨p, _, rfl, p3, by omega, fun z H4 hz g4 p4 => ?_⟩
    have e4 := g4.keep l _ lp e3
    have g34 := g3.trans g4
    have pt : ∀ H5 : Hp, H5 p = H4 p → PotAt H5 p (n + 1 + (i + 1) * 16) := fun H5 e5 => by
      obtain ⟨a, b, c, e, h⟩ := p4
      exact ⟨a, b, c, by rw [e5]; exact e, by rw [show n + 1 + (i + 1) * 16 = n + 1 + i * 16 + 16 by omega]; exact h⟩
    have put : ∀ (H5 : Hp) (y : Str), Same H4 H5 → isNameS y = true → y ∉ zs → Gr p H (upd H5 l (.lst (zs.map V.str ++ [V.str y]))) ∧ PotAt (upd H5 l (.lst (zs.map V.str ++ [V.str y]))) p (n + 1 + (i + 1) * 16) ∧ ∃ zs' : List Str, upd H5 l (.lst (zs.map V.str ++ [V.str y])) l = some (.lst (zs'.map V.str)) ∧ zs'.length = i + 1 ∧ (∀ z ∈ zs', isNameS z = true) ∧ zs'.Nodup := fun H5 y s5 hy ny => by
      have g5 := g34.trans (Gr.of s5)
      have pp : upd H5 l (.lst (zs.map V.str ++ [V.str y])) p = H4 p := by
        rw [upd_ne (Ne.symm lp)]
        obtain ⟨a, b, c, e, _⟩ := p4
        rw [e]
        exact s5 _ _ e
      refine ⟨⟨fun b o nb e => ?_, fun z => by rw [pp]; exact p4.ne⟩, pt _ pp, zs ++ [y], by rw [upd_same, List.map_append]; rfl, by simp [lz], fun x hx => ?_, ?_⟩
      · rw [upd_ne (ne_of_none e n1)]
        exact g5.keep b o nb e
      · rcases List.mem_append.mp hx with hx | hx
        · exact nz x hx
        · rw [List.mem_singleton.mp hx]; exact hy
      · rw [List.nodup_append]
        exact ⟨dz, by simp, fun a ha b hb => by rw [List.mem_singleton.mp hb]; exact fun q => ny (q ▸ ha)⟩
    refine .inl ⟨l, _, rfl, .inl (.inl (.inl e4)), rfl, flat_all _, ?_⟩
    rw [if_neg Bool.false_ne_true, inV_strs]
    refine ⟨_, rfl, ?_⟩
    have an : ∀ y : Str, (zs.any fun x => x == y) = decide (y ∈ zs) := fun y => by
      rw [Bool.eq_iff_iff, List.any_eq_true, decide_eq_true_eq]
      exact ⟨fun ⟨x, h1, h2⟩ => by rw [← beq_iff_eq.mp h2]; exact h1, fun h => ⟨y, h, by simp⟩⟩
    by_cases cz : z ∈ zs
    · rw [if_pos (by rw [an]; exact decide_eq_true cz)]
      refine lc_l ?_
      walk_at "rn"
      refine ⟨by decide +kernel, ?_⟩
      walk_at "lay"
      rename_i l2 H5 s5 n5 e5
      refine lcLf (xs := spares.map V.str) (fun H' k => .inl (.inl (k _ _ e5))) (by rw [sizeLine_eq]; decide) (fun i => ((spares.take i).filter (fun z => !zs.any fun y => y == z)).map V.str) rfl (fun i => by
        rw [List.length_map]
        exact Nat.le_trans (List.length_filter_le _ _) (by rw [List.length_take]; omega)) ?_ ?_
      · intro j x H6 N hx s6 nf nt
        obtain ⟨s, hs, rfl⟩ : ∃ s, spares[j]? = some s ∧ x = V.str s := by
          rw [List.getElem?_map] at hx
          cases e : spares[j]? with
          | none => rw [e] at hx; cases hx
          | some s => rw [e] at hx; exact ⟨s, rfl, (Option.some.inj hx).symm⟩
        have more := filter_more (zs := zs) hs
        walk_at "rn"
        refine ⟨l, _, rfl, .inl (.inl (.inl ((s5.trans s6) _ _ e4))), rfl, flat_all _, ?_⟩
        rw [if_pos rfl, inV_strs]
        refine ⟨_, rfl, ?_⟩
        by_cases cs : zs.any (fun y => y == s) = true
        · rw [cs, if_neg (by decide)]
          exact nf H6 (Same.refl H6) (by rw [more, if_pos cs, List.append_nil])
        · rw [Bool.not_eq_true] at cs
          rw [cs, if_pos (by decide)]
          exact nt _ H6 (Same.refl H6) (by rw [more, cs, if_neg Bool.false_ne_true])
      · intro D H6 nD s6 eD
        obtain ⟨z0, rest, ez, hz0, nz0⟩ := spare_left (zs := zs) (by omega)
        have e0 : spares.take (spares.map V.str).length = spares := List.take_of_length_le (by simp)
        rw [e0, ez] at eD
        refine ix_l (.inl (.inl eD)) (atI_nat (j := 0) rfl) ?_
        have s56 := s5.trans s6
        exact ⟨.inl ⟨rfl, _, .inl (.inl (s56 _ _ e4))⟩, l, _, _, rfl, rfl, s56 _ _ e4, by rw [List.length_map, sizeLine_eq]; omega, ⟨_, rfl⟩, put H6 z0 s56 hz0 nz0⟩
    · rw [if_neg (by rw [an]; simpa using cz)]
      exact ⟨.inl ⟨rfl, _, .inl (.inl e4)⟩, l, _, _, rfl, rfl, e4, by rw [List.length_map, sizeLine_eq]; omega, ⟨_, rfl⟩, put H4 z (Same.refl H4) hz cz⟩
  · rintro σ H3 ⟨⟨u, v, w, rfl⟩, g3, p3, zs, e3, lz, nz, dz⟩
    walk_at "rn"
    refine tup_l (.inl (.inl e3)) ?_
    walk_at "lay"
    rename_i t H4 s4 n4 e4
    have g4 := g3.trans (Gr.of s4)
    refine q _ zs H4 (by omega) ?_ (Fd.tup (fd_strs zs) e4 (g3.none n4)) g4 ((p3.same s4).mono (by omega))
    unfold areDesksD
    dsimp only
    rw [strs_map]
    simp only [Bool.and_eq_true, decide_eq_true_eq, List.all_eq_true]
    refine ⟨⟨⟨by rw [List.length_map]; omega, by rw [List.length_map]; omega⟩, fun x hx => ?_⟩, dz⟩
    obtain ⟨y, hy, rfl⟩ := List.mem_map.mp hx
    exact nz y hy
def spStatus : Sp := fun vs H Q _ => ∃ (p : Addr) (n : Nat), vs = [.ref p] ∧ PotAt H p n ∧ n + 1 < 2 ^ 60 ∧ ∀ z H', z ∈ statusesS → Gr p H H' → PotAt H' p (n + 1) → Q (.str z) H'
theorem d__law_status (T : TX P K mg Z) : DefOk P w K mg base "_law_status" ["pot"] 2 spStatus := by
  refine T.f__law_status.ok sc__law_status (by rintro _ _ _ _ ⟨_, _, rfl, _⟩; rfl) fun f cdv A outer s H vs Q E hr h => ?_
  obtain ⟨p, n, rfl, hp, hn, q⟩ := h
  refine ⟨_, (pss_one (ps_ret (pe_ix (kIx (K := K)) (pe_lst (pa_cons pe_str (pa_cons pe_str (pa_cons pe_str (pa_cons pe_str pa_nil))))) (pe_callD (d__law_dip T) hr rfl passL (pa_cons (pv 0) (pa_cons pe_int pa_nil))) (fun _ _ => rfl)))), ?_⟩
  walk_at "rn"
  refine ⟨by decide +kernel, ?_⟩
  walk_at "lay"
  rename_i l H3 s3 n3 e3
  refine ⟨p, _, _, rfl, hp.same s3, by omega, by decide, by decide, fun k H4 k0 k1 g4 p4 => ?_⟩
  have lp : l ≠ p := fun z => hp.ne (z ▸ n3)
  exact ix_pick (zs := statusesS) (.inl (.inl (g4.keep l _ lp e3))) k0 k1 fun z hz => q z H4 hz ((Gr.of s3).trans g4) p4
theorem d__law_test (T : TX P K mg Z) : DefOk P w K mg base "_law_test" ["pot", "desks"] 3 (spDraw K 4 fun dsk d => hasForm testForms dsk d = true) := by
  refine T.f__law_test.ok sc__law_test (by rintro _ _ _ _ ⟨_, _, _, _, rfl, _⟩; rfl) fun f cdv A outer s H vs Q E hr h => ?_
  obtain ⟨p, a, n, dsk, rfl, hp, hn, ha, l1, l4, q⟩ := h
  refine ⟨_, (pss_cons (ps_par (i := 2) (j := 3) rfl sc__law_test.nd rfl rfl (by decide) rfl rfl (pa_cons (pe_callD (d__law_dip T) hr rfl passL (pa_cons (pv 0) (pa_cons pe_int pa_nil))) (pa_cons (pe_cmpR (kEq (K := K) hr.units) (pe_callD (d__law_dip T) hr rfl passL (pa_cons (pv 0) (pa_cons pe_int pa_nil))) pe_int (nomark _)) pa_nil)) (by rfl)) (pss_cons (ps_if (pt_cmpR (kEq (K := K) hr.units) (pv 2) pe_int (nomark _)) (pss_one (ps_ret (pe_tup (pa_cons pe_str (pa_cons (pe_callD (d__law_status T) hr rfl passL (pa_cons (pv 0) pa_nil)) (pa_cons (pv 3) pa_nil)))))) pss_nil) (pss_cons (ps_if (pt_cmpR (kEq (K := K) hr.units) (pv 2) pe_int (nomark _)) (pss_one (ps_ret (pe_tup (pa_cons pe_str (pa_cons (pe_ix (kIx (K := K)) (pv 1) (pe_callD (d__law_dip T) hr rfl passL (pa_cons (pv 0) (pa_cons (pe_callB (kLen (K := K)) (by rfl) T.b_len PySem.boot_len (pa_cons (pv 1) pa_nil)) pa_nil))) (fun _ _ => rfl)) (pa_cons (pv 3) pa_nil)))))) pss_nil) (pss_cons (ps_if (pt_cmpR op_lt (pv 2) pe_int (nomark _)) (pss_one (ps_ret (pe_tup (pa_cons (pe_ix (kIx (K := K)) (pe_lst (pa_cons pe_str (pa_cons pe_str pa_nil))) (pe_op op_sub (pv 2) pe_int) (fun _ _ => rfl)) (pa_cons (pv 3) pa_nil))))) pss_nil) (pss_one (ps_ret (pe_tup (pa_cons pe_str (pa_cons (pe_op (kAdd (K := K)) pe_int (pe_callD (d__law_dip T) hr rfl passL (pa_cons (pv 0) (pa_cons (pe_ix (kIx (K := K)) (pe_lst (pa_cons pe_int (pa_cons pe_int pa_nil))) (pe_op op_sub (pv 2) pe_int) (fun _ _ => rfl)) pa_nil)))) pa_nil))))))))), ?_⟩
  walk_at "rn"
  refine ⟨p, _, n, rfl, hp, by omega, by decide, by decide, fun r H1 r0 r1 g1 p1 => ?_⟩
  refine ⟨p, _, _, rfl, p1, by omega, by decide, by decide, fun b H2 b0 b1 g2 p2 => ?_⟩
  walk_at "rn"
  generalize decide (b = 0) = wanted
  have g12 := g1.trans g2
  have a2 := sqT_gr ha hp g12
  by_cases c0 : r = 0
  · rw [if_pos (decide_eq_true c0)]
    refine ⟨p, _, rfl, p2, by omega, fun z H4 hz g4 p4 => ⟨by decide +kernel, ?_⟩⟩
    walk_at "lay"
    rename_i t H5 s5 n5 e5
    have g := g12.trans g4
    exact q _ _ H5 (ft_status hz) (Fd.tup (.cons (.str _) (.cons (.str _) (.cons (.bl _) .nil))) e5 (g.none n5)) (g.trans (Gr.of s5)) ((p4.same s5).mono (by omega))
  · rw [if_neg (by simpa using c0)]
    by_cases c1 : r = 1
    · rw [if_pos (decide_eq_true c1)]
      refine len_t a2 ?_
      rw [List.length_map]
      refine ⟨p, _, _, rfl, p2, by omega, by omega, by omega, fun k H4 k0 k1 g4 p4 => ?_⟩
      refine ix_pickT (sqT_gr a2 p2 g4) k0 k1 fun z hz => ⟨by decide +kernel, ?_⟩
      walk_at "lay"
      rename_i t H5 s5 n5 e5
      have g := g12.trans g4
      exact q _ _ H5 (ft_desk hz) (Fd.tup (.cons (.str _) (.cons (.str _) (.cons (.bl _) .nil))) e5 (g.none n5)) (g.trans (Gr.of s5)) ((p4.same s5).mono (by omega))
    · rw [if_neg (by simpa using c1)]
      by_cases c2 : r < 4
      · rw [if_pos (decide_eq_true c2)]
        refine ⟨by decide +kernel, ?_⟩
        walk_at "lay"
        rename_i l H4 s4 n4 e4
        have g4 := g12.trans (Gr.of (p := p) s4)
        rcases (show r = 2 ∨ r = 3 by omega) with rfl | rfl
        · refine ix_l (.inl (.inl e4)) rfl ⟨by decide +kernel, ?_⟩
          walk_at "lay"
          rename_i t H5 s5 n5 e5
          exact q _ _ H5 ft_answered (Fd.tup (.cons (.str _) (.cons (.bl _) .nil)) e5 (g4.none n5)) (g4.trans (Gr.of s5)) ((p2.same (s4.trans s5)).mono (by omega))
        · refine ix_l (.inl (.inl e4)) rfl ⟨by decide +kernel, ?_⟩
          walk_at "lay"
          rename_i t H5 s5 n5 e5
          exact q _ _ H5 ft_marked (Fd.tup (.cons (.str _) (.cons (.bl _) .nil)) e5 (g4.none n5)) (g4.trans (Gr.of s5)) ((p2.same (s4.trans s5)).mono (by omega))
      · rw [if_neg (by simpa using c2)]
        refine ⟨by decide +kernel, ?_⟩
        walk_at "lay"
        rename_i l H4 s4 n4 e4
        have g4 := g12.trans (Gr.of (p := p) s4)
        have fin : ∀ many : Int, 0 < many → many ≤ 30 → spDip [.ref p, .int many] H4 (fun y H2 => rAddU K (.int 1) y H2 fun y H2 => 2 ≤ sizeLine ∧ ∀ t, H2 t = none → Q (.ref t) (upd H2 t (.tup [.str "days", y]))) E0 := fun many m0 m1 => by
          refine ⟨p, many, _, rfl, p2.same s4, by omega, m0, by omega, fun k H5 k0 k1 g5 p5 => ?_⟩
          walk_at "rn"
          refine ⟨by decide +kernel, ?_⟩
          walk_at "lay"
          rename_i t H6 s6 n6 e6
          have g := g4.trans g5
          exact q _ _ H6 (ft_days (by omega) (by omega)) (Fd.tup (.cons (.str _) (.cons (.int _) .nil)) e6 (g.none n6)) (g.trans (Gr.of s6)) ((p5.same s6).mono (by omega))
        rcases (show r = 4 ∨ r = 5 by omega) with rfl | rfl
        · exact ix_l (.inl (.inl e4)) rfl (fin 4 (by decide) (by decide))
        · exact ix_l (.inl (.inl e4)) rfl (fin 30 (by decide) (by decide))
theorem d__law_action (T : TX P K mg Z) : DefOk P w K mg base "_law_action" ["pot", "desks"] 3 (spDraw K 4 fun dsk d => hasForm actionForms dsk d = true) := by
  refine T.f__law_action.ok sc__law_action (by rintro _ _ _ _ ⟨_, _, _, _, rfl, _⟩; rfl) fun f cdv A outer s H vs Q E hr h => ?_
  obtain ⟨p, a, n, dsk, rfl, hp, hn, ha, l1, l4, q⟩ := h
  refine ⟨_, (pss_cons (ps_set (i := 2) sc__law_action.nd rfl (by first | exact Or.inl rfl | exact Or.inr rfl) (pe_callD (d__law_dip T) hr rfl passL (pa_cons (pv 0) (pa_cons pe_int pa_nil)))) (pss_cons (ps_if (pt_cmpR op_lt (pv 2) pe_int (nomark _)) (pss_one (ps_ret (pe_tup (pa_cons pe_str (pa_cons (pe_callD (d__law_status T) hr rfl passL (pa_cons (pv 0) pa_nil)) pa_nil))))) pss_nil) (pss_cons (ps_if (pt_cmpR op_lt (pv 2) pe_int (nomark _)) (pss_one (ps_ret (pe_tup (pa_cons pe_str (pa_cons (pe_ix (kIx (K := K)) (pv 1) (pe_callD (d__law_dip T) hr rfl passL (pa_cons (pv 0) (pa_cons (pe_callB (kLen (K := K)) (by rfl) T.b_len PySem.boot_len (pa_cons (pv 1) pa_nil)) pa_nil))) (fun _ _ => rfl)) pa_nil))))) pss_nil) (pss_one (ps_ret (pe_ix (kIx (K := K)) (pe_lst (pa_cons (pe_tup (pa_cons pe_str pa_nil)) (pa_cons (pe_tup (pa_cons pe_str (pa_cons (pe_cmpR (kEq (K := K) hr.units) (pe_callD (d__law_dip T) hr rfl passL (pa_cons (pv 0) (pa_cons pe_int pa_nil))) pe_int (nomark _)) pa_nil))) (pa_cons (pe_tup (pa_cons pe_str pa_nil)) pa_nil)))) (pe_op op_sub (pv 2) pe_int) (fun _ _ => rfl))))))), ?_⟩
  walk_at "rn"
  refine ⟨p, _, n, rfl, hp, by omega, by decide, by decide, fun r H2 r0 r1 g12 p2 => ?_⟩
  walk_at "rn"
  have a2 := sqT_gr ha hp g12
  by_cases c0 : r < 3
  · rw [if_pos (decide_eq_true c0)]
    refine ⟨p, _, rfl, p2, by omega, fun z H4 hz g4 p4 => ⟨by decide +kernel, ?_⟩⟩
    walk_at "lay"
    rename_i t H5 s5 n5 e5
    have g := g12.trans g4
    exact q _ _ H5 (fa_status hz) (Fd.tup (.cons (.str _) (.cons (.str _) .nil)) e5 (g.none n5)) (g.trans (Gr.of s5)) ((p4.same s5).mono (by omega))
  · rw [if_neg (by simpa using c0)]
    by_cases c1 : r < 5
    · rw [if_pos (decide_eq_true c1)]
      refine len_t a2 ?_
      rw [List.length_map]
      refine ⟨p, _, _, rfl, p2, by omega, by omega, by omega, fun k H4 k0 k1 g4 p4 => ?_⟩
      refine ix_pickT (sqT_gr a2 p2 g4) k0 k1 fun z hz => ⟨by decide +kernel, ?_⟩
      walk_at "lay"
      rename_i t H5 s5 n5 e5
      have g := g12.trans g4
      exact q _ _ H5 (fa_desk hz) (Fd.tup (.cons (.str _) (.cons (.str _) .nil)) e5 (g.none n5)) (g.trans (Gr.of s5)) ((p4.same s5).mono (by omega))
    · rw [if_neg (by simpa using c1)]
      refine ⟨by decide +kernel, ?_⟩
      walk_at "lay"
      rename_i t1 H3 s3 n3 e3
      refine ⟨p, _, _, rfl, p2.same s3, by omega, by decide, by decide, fun k H4 k0 k1 g4 p4 => ?_⟩
      walk_at "rn"
      generalize decide (k = 0) = wanted
      have t1p : t1 ≠ p := fun z => p2.ne (z ▸ n3)
      have e4 := g4.keep _ _ t1p e3
      refine ⟨by decide +kernel, ?_⟩
      walk_at "lay"
      rename_i t2 H5 s5 n5 e5
      refine ⟨by decide +kernel, ?_⟩
      walk_at "lay"
      rename_i t3 H6 s6 n6 e6
      refine ⟨by decide +kernel, ?_⟩
      walk_at "lay"
      rename_i l H7 s7 n7 e7
      have g14 := (g12.trans (Gr.of (p := p) s3)).trans g4
      have g17 := g14.trans (Gr.of ((s5.trans s6).trans s7))
      have p7 := (p4.same ((s5.trans s6).trans s7)).mono (show n + 1 + 1 ≤ n + 4 by omega)
      rcases (show r = 5 ∨ r = 6 ∨ r = 7 by omega) with rfl | rfl | rfl
      · exact ix_l (.inl (.inl e7)) rfl (q _ _ H7 fa_reply (Fd.tup (.cons (.str _) .nil) (((s5.trans s6).trans s7) _ _ e4) (g12.none n3)) g17 p7)
      · exact ix_l (.inl (.inl e7)) rfl (q _ _ H7 fa_mark (Fd.tup (.cons (.str _) (.cons (.bl _) .nil)) ((s6.trans s7) _ _ e5) (g14.none n5)) g17 p7)
      · exact ix_l (.inl (.inl e7)) rfl (q _ _ H7 fa_stop (Fd.tup (.cons (.str _) .nil) (s7 _ _ e6) (g14.none (s5.free n6))) g17 p7)
/-- events to pick of -/
def spRuleE (K : PySem.W.Frag) : Sp := fun vs H Q _ => ∃ (p a l : Addr) (n : Nat) (dsk es : List Str), vs = [.ref p, .ref a, .ref l] ∧ PotAt H p n ∧ n + 48 < 2 ^ 60 ∧ SqT K H a (dsk.map V.str) ∧ 1 ≤ dsk.length ∧ dsk.length ≤ 4 ∧ H l = some (.lst (es.map V.str)) ∧ l ≠ p ∧ 1 ≤ es.length ∧ es.length ≤ 100 ∧ (∀ e ∈ es, e ∈ eventsS) ∧
  ∀ v d H', isRuleD dsk d = true → Fd K H H' v d → Gr p H H' → PotAt H' p (n + 48) → (∃ ev ts as, d = .tuple [.str ev, ts, as] ∧ ev ∈ es) → Q v H'
theorem d__law_rule (T : TX P K mg Z) : DefOk P w K mg base "_law_rule" ["pot", "desks", "events"] 4 (spRuleE K) := by
  refine T.f__law_rule.ok sc__law_rule (by rintro _ _ _ _ ⟨_, _, _, _, _, _, rfl, _⟩; rfl) fun f cdv A outer s H vs Q E hr h => ?_
  obtain ⟨p, a, l, n, dsk, evs, rfl, hp, hn, ha, l1, l4, hl, lp, e1, e100, eok, q⟩ := h
  refine ⟨_, (pss_cons (ps_set (i := 3) sc__law_rule.nd rfl (by first | exact Or.inl rfl | exact Or.inr rfl) (pe_ix (kIx (K := K)) (pv 2) (pe_callD (d__law_dip T) hr rfl passL (pa_cons (pv 0) (pa_cons (pe_callB (kLen (K := K)) (by rfl) T.b_len PySem.boot_len (pa_cons (pv 2) pa_nil)) pa_nil))) (fun _ _ => rfl))) (pss_cons (ps_set (i := 4) sc__law_rule.nd rfl (by first | exact Or.inl rfl | exact Or.inr rfl) (pe_callD (d__law_dip T) hr rfl passL (pa_cons (pv 0) (pa_cons (pe_ix (kIx (K := K)) (pe_lst (pa_cons pe_int (pa_cons pe_int (pa_cons pe_int pa_nil)))) (pe_callD (d__law_dip T) hr rfl passL (pa_cons (pv 0) (pa_cons pe_int pa_nil))) (fun _ _ => rfl)) pa_nil)))) (pss_cons (ps_set (i := 5) sc__law_rule.nd rfl (by first | exact Or.inl rfl | exact Or.inr rfl) (pe_callTy (kTuple (K := K)) (by rfl) T.b_tuple (by decide +kernel) (pa_cons (pe_lc (own := [("k", 6)]) rfl sc__law_rule.nd (pi_range1 rfl T.b_range (pa_cons (pv 4) pa_nil)) (blkOk_by (N := ["pot", "desks", "events", "event", "many", "tests", "k"]) (sc := defScope s__law_rule) (own := [("k", 6)]) (by decide +kernel)) (fun _ _ _ _ _ => (pg_name (i := 6) sc__law_rule.nd rfl (by first | exact Or.inl rfl | exact Or.inr rfl))) (fun _ _ _ _ _ => pts_nil) (fun _ _ _ _ _ => (pe_callD (d__law_test T) hr rfl passL (pa_cons (pv 0) (pa_cons (pv 1) pa_nil))))) pa_nil))) (pss_cons (ps_set (i := 4) sc__law_rule.nd rfl (by first | exact Or.inl rfl | exact Or.inr rfl) (pe_op (kAdd (K := K)) pe_int (pe_callD (d__law_dip T) hr rfl passL (pa_cons (pv 0) (pa_cons pe_int pa_nil))))) (pss_one (ps_ret (pe_tup (pa_cons (pv 3) (pa_cons (pv 5) (pa_cons (pe_callTy (kTuple (K := K)) (by rfl) T.b_tuple (by decide +kernel) (pa_cons (pe_lc (own := [("k", 6)]) rfl sc__law_rule.nd (pi_range1 rfl T.b_range (pa_cons (pv 4) pa_nil)) (blkOk_by (N := ["pot", "desks", "events", "event", "many", "tests", "k"]) (sc := defScope s__law_rule) (own := [("k", 6)]) (by decide +kernel)) (fun _ _ _ _ _ => (pg_name (i := 6) sc__law_rule.nd rfl (by first | exact Or.inl rfl | exact Or.inr rfl))) (fun _ _ _ _ _ => pts_nil) (fun _ _ _ _ _ => (pe_callD (d__law_action T) hr rfl passL (pa_cons (pv 0) (pa_cons (pv 1) pa_nil))))) pa_nil)) pa_nil)))))))))), ?_⟩
  walk_at "rn"
  refine len_l (.inl (.inl hl)) ?_
  rw [List.length_map]
  refine ⟨p, _, n, rfl, hp, by omega, by omega, by omega, fun r H1 r0 r1 g1 p1 => ?_⟩
  refine ix_pick (zs := evs) (.inl (.inl (g1.keep l _ lp hl))) r0 r1 fun z hz0 => ?_
  have hz := eok z hz0
  refine ⟨by decide +kernel, ?_⟩
  walk_at "lay"
  rename_i l2 H2 s2 n2 e2
  have l2p : l2 ≠ p := fun z => p1.ne (z ▸ n2)
  refine ⟨p, _, _, rfl, p1.same s2, by omega, by decide, by decide, fun w H2b w0 w1 g2b p2b => ?_⟩
  have e2b := g2b.keep _ _ l2p e2
  have g02 := (g1.trans (Gr.of (p := p) s2)).trans g2b
  have pick : ∀ Q' : VK, (∀ many : Int, 0 < many → many ≤ 5 → Q' (.int many) H2b) → rIxU K (.ref l2) (.int w) H2b Q' := fun Q' h => by
    rcases (show w = 0 ∨ w = 1 ∨ w = 2 by omega) with rfl | rfl | rfl
    · exact ix_l (.inl (.inl e2b)) rfl (h 1 (by decide) (by decide))
    · exact ix_l (.inl (.inl e2b)) rfl (h 3 (by decide) (by decide))
    · exact ix_l (.inl (.inl e2b)) rfl (h 5 (by decide) (by decide))
  refine pick _ fun many mn0 mn5 => ?_
  refine ⟨p, _, _, rfl, p2b, by omega, mn0, by omega, fun m H3 m0 m1 g3 p3 => ?_⟩
  obtain ⟨m, rfl⟩ := Int.eq_ofNat_of_zero_le m0
  have g13 := g02.trans g3
  refine lcDraw (K := K) 4 (fun d => hasForm testForms dsk d = true) (by rw [sizeLine_eq]; omega) p3 ?_ ?_
  · intro i H' N hi g' p' q'
    walk_at "rn"
    exact ⟨p, a, _, dsk, rfl, p', by omega, sqT_gr ha hp (g13.trans g'), l1, l4, fun v d H4 gd fd g4 p4 => q' v d H4 g4 p4 fd gd⟩
  · intro D1 H4 ys ds nD1 g4 eD1 p4 ld F gd
    walk_at "rn"
    refine tup_l (.inl (.inl eD1)) ?_
    walk_at "lay"
    rename_i t1 H5 s5 n5 e5
    have g14 := g13.trans g4
    have g15 := g14.trans (Gr.of s5)
    refine ⟨p, _, _, rfl, p4.same s5, by omega, by decide, by decide, fun k H6 k0 k1 g6 p6 => ?_⟩
    obtain ⟨k, rfl⟩ := Int.eq_ofNat_of_zero_le k0
    walk_at "rn"
    have ek : (1 : Int) + ((k : Nat) : Int) = ((1 + k : Nat) : Int) := by omega
    rw [ek]
    have g16 := g15.trans g6
    refine lcDraw (K := K) 4 (fun d => hasForm actionForms dsk d = true) (by rw [sizeLine_eq]; omega) p6 ?_ ?_
    · intro i H' N hi g' p' q'
      walk_at "rn"
      exact ⟨p, a, _, dsk, rfl, p', by omega, sqT_gr ha hp (g16.trans g'), l1, l4, fun v d H4 gd fd g4 p4 => q' v d H4 g4 p4 fd gd⟩
    · intro D2 H7 zs es nD2 g7 eD2 p7 le G ge
      refine tup_l (.inl (.inl eD2)) ?_
      walk_at "lay"
      rename_i t2 H8 s8 n8 e8
      refine ⟨by decide +kernel, ?_⟩
      walk_at "lay"
      rename_i t3 H9 s9 n9 e9
      have h3 : H3 p ≠ none := p3.ne
      have h6 : H6 p ≠ none := p6.ne
      have n1' : ∀ b, H b ≠ none → H3 b ≠ none := g13.dom
      have g59 := ((Gr.of (p := p) s5).trans g6).trans ((g7.trans (Gr.of s8)).trans (Gr.of s9))
      have lt1 : t1 ≠ p := fun c => p4.ne (c ▸ n5)
      have F1 : Fd K H H9 (.ref t1) (.tuple ds) := Fd.tup ((F.later h3 g59).weak n1') (((g6.trans g7).trans (Gr.of (s8.trans s9))).keep _ _ lt1 e5) (g14.none n5)
      have F2 : Fd K H H9 (.ref t2) (.tuple es) := Fd.tup ((G.same (s8.trans s9)).weak g16.dom) (s9 _ _ e8) ((g16.trans g7).none n8)
      have g19 := ((g16.trans g7).trans (Gr.of s8))
      refine q _ _ H9 ?_ (Fd.tup (.cons (.str z) (.cons F1 (.cons F2 .nil))) e9 (g19.none n9)) (g19.trans (Gr.of s9)) ((p7.same (s8.trans s9)).mono (by omega)) ⟨_, _, _, rfl, hz0⟩
      show (isWordD eventsS (.str z) && decide (ds.length ≤ 4) && ds.all (hasForm testForms dsk) && decide (1 ≤ es.length) && decide (es.length ≤ 4) && es.all (hasForm actionForms dsk)) = true
      simp only [Bool.and_eq_true, decide_eq_true_eq, List.all_eq_true]
      exact ⟨⟨⟨⟨⟨word_mem hz, by omega⟩, gd⟩, by omega⟩, by omega⟩, ge⟩
theorem fe_hand {dsk : List Str} {z : Str} (h : z ∈ dsk) : isDeedD dsk (.tuple [.str "hand", .str z]) = true := by
  show (([PyData.str z].zip ["desk"]).all fun p => fitsKind dsk p.2 p.1) = true
  show (fitsKind dsk "desk" (.str z) && true) = true
  rw [fk_desk, Bool.and_true]
  exact word_mem h
theorem fe_set {dsk : List Str} {z : Str} (h : z ∈ statusesS) : isDeedD dsk (.tuple [.str "set", .str z]) = true := by
  show (fitsKind dsk "status" (.str z) && true) = true
  rw [fk_status, Bool.and_true]
  exact word_mem h
theorem d__law_deed (T : TX P K mg Z) : DefOk P w K mg base "_law_deed" ["pot", "desks"] 3 (spDraw K 4 fun dsk d => isDeedD dsk d = true) := by
  refine T.f__law_deed.ok sc__law_deed (by rintro _ _ _ _ ⟨_, _, _, _, rfl, _⟩; rfl) fun f cdv A outer s H vs Q E hr h => ?_
  obtain ⟨p, a, n, dsk, rfl, hp, hn, ha, l1, l4, q⟩ := h
  refine ⟨_, (pss_cons (ps_set (i := 2) sc__law_deed.nd rfl (by first | exact Or.inl rfl | exact Or.inr rfl) (pe_callD (d__law_dip T) hr rfl passL (pa_cons (pv 0) (pa_cons pe_int pa_nil)))) (pss_cons (ps_if (pt_cmpR op_lt (pv 2) pe_int (nomark _)) (pss_one (ps_ret (pe_ix (kIx (K := K)) (pe_lst (pa_cons (pe_tup (pa_cons pe_str pa_nil)) (pa_cons (pe_tup (pa_cons pe_str pa_nil)) (pa_cons (pe_tup (pa_cons pe_str pa_nil)) (pa_cons (pe_tup (pa_cons pe_str pa_nil)) (pa_cons (pe_tup (pa_cons pe_str pa_nil)) pa_nil)))))) (pv 2) (fun _ _ => rfl)))) pss_nil) (pss_cons (ps_if (pt_cmpR op_lt (pv 2) pe_int (nomark _)) (pss_one (ps_ret (pe_tup (pa_cons pe_str (pa_cons (pe_ix (kIx (K := K)) (pv 1) (pe_callD (d__law_dip T) hr rfl passL (pa_cons (pv 0) (pa_cons (pe_callB (kLen (K := K)) (by rfl) T.b_len PySem.boot_len (pa_cons (pv 1) pa_nil)) pa_nil))) (fun _ _ => rfl)) pa_nil))))) pss_nil) (pss_one (ps_ret (pe_tup (pa_cons pe_str (pa_cons (pe_callD (d__law_status T) hr rfl passL (pa_cons (pv 0) pa_nil)) pa_nil)))))))), ?_⟩
  walk_at "rn"
  refine ⟨p, _, n, rfl, hp, by omega, by decide, by decide, fun r H1 r0 r1 g1 p1 => ?_⟩
  walk_at "rn"
  by_cases c0 : r < 5
  · rw [if_pos (decide_eq_true c0)]
    refine ⟨by decide +kernel, ?_⟩
    walk_at "lay"
    rename_i t1 H4 s4 n4 e4
    refine ⟨by decide +kernel, ?_⟩
    walk_at "lay"
    rename_i t2 H5 s5 n5 e5
    refine ⟨by decide +kernel, ?_⟩
    walk_at "lay"
    rename_i t3 H6 s6 n6 e6
    refine ⟨by decide +kernel, ?_⟩
    walk_at "lay"
    rename_i t4 H7 s7 n7 e7
    refine ⟨by decide +kernel, ?_⟩
    walk_at "lay"
    rename_i t5 H8 s8 n8 e8
    refine ⟨by decide +kernel, ?_⟩
    walk_at "lay"
    rename_i l H9 s9 n9 e9
    have s49 : Same H1 H9 := ((((s4.trans s5).trans s6).trans s7).trans s8).trans s9
    have g9 := g1.trans (Gr.of (p := p) s49)
    have p9 := (p1.same s49).mono (show n + 1 ≤ n + 4 by omega)
    have a1 := ((((s5.trans s6).trans s7).trans s8).trans s9) _ _ e4
    have a2 := (((s6.trans s7).trans s8).trans s9) _ _ e5
    have a3 := ((s7.trans s8).trans s9) _ _ e6
    have a4 := (s8.trans s9) _ _ e7
    have a5 := s9 _ _ e8
    have m1 := g1.none n4
    have m2 := g1.none (s4.free n5)
    have m3 := g1.none ((s4.trans s5).free n6)
    have m4 := g1.none (((s4.trans s5).trans s6).free n7)
    have m5 := g1.none ((((s4.trans s5).trans s6).trans s7).free n8)
    rcases (show r = 0 ∨ r = 1 ∨ r = 2 ∨ r = 3 ∨ r = 4 by omega) with rfl | rfl | rfl | rfl | rfl
    · exact ix_l (.inl (.inl e9)) rfl (q _ _ H9 rfl (Fd.tup (.cons (.str _) .nil) a1 m1) g9 p9)
    · exact ix_l (.inl (.inl e9)) rfl (q _ _ H9 rfl (Fd.tup (.cons (.str _) .nil) a2 m2) g9 p9)
    · exact ix_l (.inl (.inl e9)) rfl (q _ _ H9 rfl (Fd.tup (.cons (.str _) .nil) a3 m3) g9 p9)
    · exact ix_l (.inl (.inl e9)) rfl (q _ _ H9 rfl (Fd.tup (.cons (.str _) .nil) a4 m4) g9 p9)
    · exact ix_l (.inl (.inl e9)) rfl (q _ _ H9 rfl (Fd.tup (.cons (.str _) .nil) a5 m5) g9 p9)
  · rw [if_neg (by simpa using c0)]
    by_cases c1 : r < 7
    · rw [if_pos (decide_eq_true c1)]
      have a2 := sqT_gr ha hp g1
      refine len_t a2 ?_
      rw [List.length_map]
      refine ⟨p, _, _, rfl, p1, by omega, by omega, by omega, fun k H4 k0 k1 g4 p4 => ?_⟩
      refine ix_pickT (sqT_gr a2 p1 g4) k0 k1 fun z hz => ⟨by decide +kernel, ?_⟩
      walk_at "lay"
      rename_i t H5 s5 n5 e5
      have g := g1.trans g4
      exact q _ _ H5 (fe_hand hz) (Fd.tup (.cons (.str _) (.cons (.str _) .nil)) e5 (g.none n5)) (g.trans (Gr.of s5)) ((p4.same s5).mono (by omega))
    · rw [if_neg (by simpa using c1)]
      refine ⟨p, _, rfl, p1, by omega, fun z H4 hz g4 p4 => ⟨by decide +kernel, ?_⟩⟩
      walk_at "lay"
      rename_i t H5 s5 n5 e5
      have g := g1.trans g4
      exact q _ _ H5 (fe_set hz) (Fd.tup (.cons (.str _) (.cons (.str _) .nil)) e5 (g.none n5)) (g.trans (Gr.of s5)) ((p4.same s5).mono (by omega))
end
end Ld

set_option Elab.async false
set_option linter.all false
set_option maxRecDepth 100000
set_option maxHeartbeats 4000000
/-! Many pots. -/
namespace Ld
open PySem PySem.Spec PyProof.Rows L2
local macro_rules | `(tactic| walk_at "rd") => `(tactic| try simp only [tSeq, tNext, tRet, tRetN, tIfS, tTest, tB, tAnd, tOr, tNot, tAndV, tOrV, tNotV, tOp, tUn, tC, tVar, tCons, tNil, tCall, tCB, tAsg, tDrop, tChain, tIf, tYes, tBreak, tCont, tNever, tFld, sFld, sFldAug, tMeth, tMake, tRaiseF, tMkF, tM1, tOwn2S, tOwnIxS, tXf, tRevL, tMethS, tTup, tLst, tSl, tPart, tNoPart, tPar, tBM, tBM0, tLenSetT, tAug, gName, gTup, gCons, gNil, gStar2, gFld, gSub, rI0, rI, rU, rIxU, rIxS, rIn, rInU, rAddU, rSlU, rLenU, rTupU, rListU, rRep, rEqU_ss, rEqU_ii, rEqU_bb, rEqU_r, rNeU_ss, rNeU_ii, rNeU_bb, rNeU_r, cxOf, L2.start, wipe, List.map_cons, List.map_nil, List.length_cons, List.length_nil, List.replicate, List.cons_append, List.nil_append, List.append_nil, Nat.reduceSub, Nat.reduceAdd, List.getElem?_cons_zero, List.getElem?_cons_succ, List.set_cons_zero, List.set_cons_succ, Option.some.injEq, exists_eq_left', exists_eq_left, exists_eq, exists_and_left, V.bl.injEq, V.int.injEq, V.str.injEq, V.ref.injEq, V.ty.injEq, reduceCtorEq, false_and, and_false, exists_false, false_or, or_false, true_and, and_true, if_true, if_false, Bool.false_eq_true, ite_true, ite_false, reduceIte, decide_true, decide_false, Bool.not_true, Bool.not_false, Bool.not_eq_true, Bool.true_and, Bool.false_and, Bool.and_true, Bool.and_false, List.cons.injEq, and_assoc])
local macro_rules | `(tactic| walk_at "rn") => `(tactic| try simp only [tSeq, tNext, tRet, tRetN, tIfS, tTest, tB, tAnd, tOr, tNot, tAndV, tOrV, tNotV, tOp, tUn, tC, tVar, tCons, tNil, tCall, tCB, tAsg, tDrop, tChain, tIf, tYes, tBreak, tCont, tNever, tFld, sFld, sFldAug, tMeth, tMake, tRaiseF, tMkF, tM1, tOwn2S, tOwnIxS, tXf, tRevL, tMethS, tCallS, tMethK1, tDNewK, tRevT, Ends.cut, tDGet, rNotN, tNGet, sNPut, tNNew, tTup, tLst, tSl, tPart, tNoPart, tPar, tBM, tBM0, tLenSetT, tAug, gName, gTup, gCons, gNil, gStar2, gFld, gSub, rI0, rI, rU, rAddU_ii, tFor_rng, tLc_rng, rRep, rEqU_ss, rEqU_ii, rEqU_bb, rEqU_r, rNeU_ss, rNeU_ii, rNeU_bb, rNeU_r, cxOf, L2.start, wipe, List.map_cons, List.map_nil, List.length_cons, List.length_nil, List.replicate, List.cons_append, List.nil_append, List.append_nil, Nat.reduceSub, Nat.reduceAdd, List.getElem?_cons_zero, List.getElem?_cons_succ, List.set_cons_zero, List.set_cons_succ, Option.some.injEq, exists_eq_left', exists_eq_left, exists_eq, exists_and_left, V.bl.injEq, V.int.injEq, V.str.injEq, V.ref.injEq, V.ty.injEq, reduceCtorEq, false_and, and_false, exists_false, false_or, or_false, true_and, and_true, if_true, if_false, Bool.false_eq_true, ite_true, ite_false, reduceIte, decide_true, decide_false, Bool.not_true, Bool.not_false, Bool.not_eq_true, Bool.true_and, Bool.false_and, Bool.and_true, Bool.and_false, List.cons.injEq, and_assoc])
local macro_rules | `(tactic| walk_at "lay") => `(tactic| (apply lay_new; intro l h qq s n e; rw [← qq]; clear qq))
section
variable {P : Program} {w : World} {K : PySem.W.Frag} {mg : Str → Option Value} {base : Heap} {Z : Ad}
structure PotsAt (H : Hp) (ps : List Addr) (n : Nat) : Prop where
  nd : ps.Nodup
  at_ : ∀ p ∈ ps, PotAt H p n
theorem PotsAt.same {H H' : Hp} {ps : List Addr} {n : Nat} (h : PotsAt H ps n) (s : Same H H') : PotsAt H' ps n := ⟨h.nd, fun p m => (h.at_ p m).same s⟩
theorem PotsAt.mono {H : Hp} {ps : List Addr} {n m : Nat} (h : PotsAt H ps n) (l : n ≤ m) : PotsAt H ps m := ⟨h.nd, fun p k => (h.at_ p k).mono l⟩
/-- one of them was drawn from -/
theorem PotsAt.gr {H H' : Hp} {ps : List Addr} {p : Addr} {n m : Nat} (h : PotsAt H ps n) (g : Gr p H H') (hp : PotAt H' p m) (l : n ≤ m) : PotsAt H' ps m := ⟨h.nd, fun q k => by
  by_cases c : q = p
  · rw [c]; exact hp
  · obtain ⟨a, b, d, e, r⟩ := (h.at_ q k).mono l
    exact ⟨a, b, d, g.keep _ _ c e, r⟩⟩
/-- a comprehension over range, by an invariant -/
theorem lcRi {H : Hp} {Q : VK} {σ : L2.St} {g : TG} {te : TE} {vs : List Nat} {n : Nat} (few : n < sizeLine) (Pv : Addr → Nat → Hp → Prop) (h0 : ∀ D, H D = none → Pv D 0 (upd H D (.lst [])))
    (step : ∀ D i H', H D = none → i < n → Pv D i H' → lcTurn g tYes te vs σ D (Pv D (i + 1)) (.int (i : Nat)) H') (hd : ∀ D H', H D = none → Pv D n H' → Q (.ref D) H') : LcRng g tYes te vs σ Q [.int (n : Int)] H := by
  refine lcAny (walk_range (lo := 0) (n := n)) (fun R r => ⟨(n : Int), rfl, by omega, by rw [sizeLine_eq] at few; omega, by rw [Int.toNat_natCast]; exact r⟩) Pv h0 (fun _ _ _ _ _ => trivial) ?_ ?_
  · rintro D nD i x H1 H' hi pv y
    obtain ⟨rfl, rfl⟩ := y
    show lcTurn g tYes te vs σ D (Pv D (i + 1)) (.int (0 + (i : Int))) _
    rw [Int.zero_add]
    exact step D i _ nD hi pv
  · exact fun D nD H' pv => hd D H' nD pv
end
end Ld

set_option Elab.async false
set_option linter.all false
set_option maxRecDepth 100000
set_option maxHeartbeats 4000000
/-! Rules drawn out of many pots. -/
namespace Ld
open PySem PySem.Spec PyProof.Rows L2
local macro_rules | `(tactic| walk_at "rd") => `(tactic| try simp only [tSeq, tNext, tRet, tRetN, tIfS, tTest, tB, tAnd, tOr, tNot, tAndV, tOrV, tNotV, tOp, tUn, tC, tVar, tCons, tNil, tCall, tCB, tAsg, tDrop, tChain, tIf, tYes, tBreak, tCont, tNever, tFld, sFld, sFldAug, tMeth, tMake, tRaiseF, tMkF, tM1, tOwn2S, tOwnIxS, tXf, tRevL, tMethS, tTup, tLst, tSl, tPart, tNoPart, tPar, tBM, tBM0, tLenSetT, tAug, gName, gTup, gCons, gNil, gStar2, gFld, gSub, rI0, rI, rU, rIxU, rIxS, rIn, rInU, rAddU, rSlU, rLenU, rTupU, rListU, rRep, rEqU_ss, rEqU_ii, rEqU_bb, rEqU_r, rNeU_ss, rNeU_ii, rNeU_bb, rNeU_r, cxOf, L2.start, wipe, List.map_cons, List.map_nil, List.length_cons, List.length_nil, List.replicate, List.cons_append, List.nil_append, List.append_nil, Nat.reduceSub, Nat.reduceAdd, List.getElem?_cons_zero, List.getElem?_cons_succ, List.set_cons_zero, List.set_cons_succ, Option.some.injEq, exists_eq_left', exists_eq_left, exists_eq, exists_and_left, V.bl.injEq, V.int.injEq, V.str.injEq, V.ref.injEq, V.ty.injEq, reduceCtorEq, false_and, and_false, exists_false, false_or, or_false, true_and, and_true, if_true, if_false, Bool.false_eq_true, ite_true, ite_false, reduceIte, decide_true, decide_false, Bool.not_true, Bool.not_false, Bool.not_eq_true, Bool.true_and, Bool.false_and, Bool.and_true, Bool.and_false, List.cons.injEq, and_assoc])
local macro_rules | `(tactic| walk_at "rn") => `(tactic| try simp only [tSeq, tNext, tRet, tRetN, tIfS, tTest, tB, tAnd, tOr, tNot, tAndV, tOrV, tNotV, tOp, tUn, tC, tVar, tCons, tNil, tCall, tCB, tAsg, tDrop, tChain, tIf, tYes, tBreak, tCont, tNever, tFld, sFld, sFldAug, tMeth, tMake, tRaiseF, tMkF, tM1, tOwn2S, tOwnIxS, tXf, tRevL, tMethS, tCallS, tMethK1, tDNewK, tRevT, Ends.cut, tDGet, rNotN, tNGet, sNPut, tNNew, tTup, tLst, tSl, tPart, tNoPart, tPar, tBM, tBM0, tLenSetT, tAug, gName, gTup, gCons, gNil, gStar2, gFld, gSub, rI0, rI, rU, rAddU_ii, tFor_rng, tLc_rng, rRep, rEqU_ss, rEqU_ii, rEqU_bb, rEqU_r, rNeU_ss, rNeU_ii, rNeU_bb, rNeU_r, cxOf, L2.start, wipe, List.map_cons, List.map_nil, List.length_cons, List.length_nil, List.replicate, List.cons_append, List.nil_append, List.append_nil, Nat.reduceSub, Nat.reduceAdd, List.getElem?_cons_zero, List.getElem?_cons_succ, List.set_cons_zero, List.set_cons_succ, Option.some.injEq, exists_eq_left', exists_eq_left, exists_eq, exists_and_left, V.bl.injEq, V.int.injEq, V.str.injEq, V.ref.injEq, V.ty.injEq, reduceCtorEq, false_and, and_false, exists_false, false_or, or_false, true_and, and_true, if_true, if_false, Bool.false_eq_true, ite_true, ite_false, reduceIte, decide_true, decide_false, Bool.not_true, Bool.not_false, Bool.not_eq_true, Bool.true_and, Bool.false_and, Bool.and_true, Bool.and_false, List.cons.injEq, and_assoc])
local macro_rules | `(tactic| walk_at "lay") => `(tactic| (apply lay_new; intro l h qq s n e; rw [← qq]; clear qq))
section
variable {P : Program} {w : World} {K : PySem.W.Frag} {mg : Str → Option Value} {base : Heap} {Z : Ad}
/-- only the pots change -/
structure GrS (ps : List Addr) (H H' : Hp) : Prop where
  keep : Keep (fun b => b ∈ ps) H H'
  ne : ∀ b, H b ≠ none → H' b ≠ none
theorem GrS.refl {ps : List Addr} {H : Hp} : GrS ps H H := ⟨fun _ _ _ e => e, fun _ z => z⟩
theorem GrS.of {ps : List Addr} {H H' : Hp} (s : Same H H') : GrS ps H H' := ⟨fun b o _ e => s b o e, fun b z => by
  cases e : H b with
  | none => exact absurd e z
  | some o => rw [s _ _ e]; exact nofun⟩
theorem GrS.one {ps : List Addr} {p : Addr} {H H' : Hp} (g : Gr p H H') (m : p ∈ ps) : GrS ps H H' := ⟨fun b o nb e => g.keep b o (fun c => nb (c ▸ m)) e, g.dom⟩
theorem GrS.trans {ps : List Addr} {H H1 H2 : Hp} (g : GrS ps H H1) (h : GrS ps H1 H2) : GrS ps H H2 := ⟨fun b o nb e => h.keep b o nb (g.keep b o nb e), fun b z => h.ne b (g.ne b z)⟩
theorem GrS.seqT {ps : List Addr} {H H' : Hp} {n : Nat} {a : Addr} {xs : List V} (h : SqT K H a xs) (pa : PotsAt H ps n) (g : GrS ps H H') : SqT K H' a xs := by
  have go : ∀ o, H a = some o → (∀ xs, o ≠ .lst xs) → H' a = some o := fun o e no => g.keep _ _ (fun m => by
    obtain ⟨x, y, z, e', _⟩ := pa.at_ a m
    rw [e'] at e
    injection e with e
    exact no _ e.symm) e
  rcases h with (h | ⟨o, h⟩) | h
  · exact .inl (.inl (go _ h fun _ => nofun))
  · exact .inl (.inr ⟨o, go _ h fun _ => nofun⟩)
  · exact .inr h
def loR : Nat := 0
end
end Ld

set_option Elab.async false
set_option linter.all false
set_option maxRecDepth 100000
set_option maxHeartbeats 2000000
/-! Histories and their beginnings. -/
namespace Ld
open PySem PySem.Spec PyProof.Rows L2
theorem turnsT_take (ef : Str → Tk → Ef) (dsk : List Str) : ∀ (ds : List PyData) (tk : Option Tk) (n : Nat), turnsT ef dsk tk (ds.take n) = (turnsT ef dsk tk ds).take n
  | [], _, n => by simp [turnsT]
  | d :: r, tk, 0 => rfl
  | d :: r, tk, n + 1 => by
    show turnT ef dsk tk d :: turnsT ef dsk _ (r.take n) = _
    rw [turnsT_take ef dsk r]
    rfl
theorem turnsT_len (ef : Str → Tk → Ef) (dsk : List Str) : ∀ (ds : List PyData) (tk : Option Tk), (turnsT ef dsk tk ds).length = ds.length
  | [], _ => rfl
  | d :: r, tk => by
    show (turnsT ef dsk _ r).length + 1 = r.length + 1
    rw [turnsT_len ef dsk r]
theorem faultsOf_ge : ∀ (ts : List Tn) (i : Nat), ∀ p ∈ faultsOf i ts, i ≤ p.2
  | [], _ => fun _ m => nomatch m
  | t :: r, i => fun p m => by
    rcases List.mem_append.mp m with m | m
    · obtain ⟨k, _, rfl⟩ := List.mem_map.mp m
      exact Nat.le_refl _
    · have := faultsOf_ge r (i + 1) p m
      omega
theorem faultsOf_take : ∀ (ts : List Tn) (i n : Nat), faultsOf i (ts.take n) = (faultsOf i ts).filter fun p => decide (p.2 < i + n)
  | [], i, n => by simp [faultsOf]
  | t :: r, i, 0 => by
    rw [List.take_zero]
    symm
    rw [show faultsOf i [] = [] from rfl, List.filter_eq_nil_iff]
    intro p m
    have := faultsOf_ge (t :: r) i p m
    simp
    omega
  | t :: r, i, n + 1 => by
    show t.kinds.map (fun k => (k, i)) ++ faultsOf (i + 1) (r.take n) = (t.kinds.map (fun k => (k, i)) ++ faultsOf (i + 1) r).filter _
    rw [faultsOf_take r (i + 1) n, List.filter_append]
    congr 1
    · symm
      rw [List.filter_eq_self]
      intro p m
      obtain ⟨k, _, rfl⟩ := List.mem_map.mp m
      simp
    · congr 1
      funext p
      congr 1
      rw [eq_iff_iff]
      omega
end Ld

set_option Elab.async false
set_option linter.all false
set_option maxRecDepth 100000
set_option maxHeartbeats 4000000
/-! play and faults of histories that are good. -/
namespace Ld
open PySem PySem.Spec PyProof.Rows L2
local macro_rules | `(tactic| walk_at "rd") => `(tactic| try simp only [tSeq, tNext, tRet, tRetN, tIfS, tTest, tB, tAnd, tOr, tNot, tAndV, tOrV, tNotV, tOp, tUn, tC, tVar, tCons, tNil, tCall, tCB, tAsg, tDrop, tChain, tIf, tYes, tBreak, tCont, tNever, tFld, sFld, sFldAug, tMeth, tMake, tRaiseF, tMkF, tM1, tOwn2S, tOwnIxS, tXf, tRevL, tMethS, tTup, tLst, tSl, tPart, tNoPart, tPar, tBM, tBM0, tLenSetT, tAug, gName, gTup, gCons, gNil, gStar2, gFld, gSub, rI0, rI, rU, rIxU, rIxS, rIn, rInU, rAddU, rSlU, rLenU, rTupU, rListU, rRep, rEqU_ss, rEqU_ii, rEqU_bb, rEqU_r, rNeU_ss, rNeU_ii, rNeU_bb, rNeU_r, cxOf, L2.start, wipe, List.map_cons, List.map_nil, List.length_cons, List.length_nil, List.replicate, List.cons_append, List.nil_append, List.append_nil, Nat.reduceSub, Nat.reduceAdd, List.getElem?_cons_zero, List.getElem?_cons_succ, List.set_cons_zero, List.set_cons_succ, Option.some.injEq, exists_eq_left', exists_eq_left, exists_eq, exists_and_left, V.bl.injEq, V.int.injEq, V.str.injEq, V.ref.injEq, V.ty.injEq, reduceCtorEq, false_and, and_false, exists_false, false_or, or_false, true_and, and_true, if_true, if_false, Bool.false_eq_true, ite_true, ite_false, reduceIte, decide_true, decide_false, Bool.not_true, Bool.not_false, Bool.not_eq_true, Bool.true_and, Bool.false_and, Bool.and_true, Bool.and_false, List.cons.injEq, and_assoc])
local macro_rules | `(tactic| walk_at "rn") => `(tactic| try simp only [tSeq, tNext, tRet, tRetN, tIfS, tTest, tB, tAnd, tOr, tNot, tAndV, tOrV, tNotV, tOp, tUn, tC, tVar, tCons, tNil, tCall, tCB, tAsg, tDrop, tChain, tIf, tYes, tBreak, tCont, tNever, tFld, sFld, sFldAug, tMeth, tMake, tRaiseF, tMkF, tM1, tOwn2S, tOwnIxS, tXf, tRevL, tMethS, tCallS, tMethK1, tDNewK, tRevT, Ends.cut, tDGet, rNotN, tNGet, sNPut, tNNew, tTup, tLst, tSl, tPart, tNoPart, tPar, tBM, tBM0, tLenSetT, tAug, gName, gTup, gCons, gNil, gStar2, gFld, gSub, rI0, rI, rU, rAddU_ii, tFor_rng, tLc_rng, rRep, rEqU_ss, rEqU_ii, rEqU_bb, rEqU_r, rNeU_ss, rNeU_ii, rNeU_bb, rNeU_r, cxOf, L2.start, wipe, List.map_cons, List.map_nil, List.length_cons, List.length_nil, List.replicate, List.cons_append, List.nil_append, List.append_nil, Nat.reduceSub, Nat.reduceAdd, List.getElem?_cons_zero, List.getElem?_cons_succ, List.set_cons_zero, List.set_cons_succ, Option.some.injEq, exists_eq_left', exists_eq_left, exists_eq, exists_and_left, V.bl.injEq, V.int.injEq, V.str.injEq, V.ref.injEq, V.ty.injEq, reduceCtorEq, false_and, and_false, exists_false, false_or, or_false, true_and, and_true, if_true, if_false, Bool.false_eq_true, ite_true, ite_false, reduceIte, decide_true, decide_false, Bool.not_true, Bool.not_false, Bool.not_eq_true, Bool.true_and, Bool.false_and, Bool.and_true, Bool.and_false, List.cons.injEq, and_assoc])
local macro_rules | `(tactic| walk_at "lay") => `(tactic| (apply lay_new; intro l h qq s n e; rw [← qq]; clear qq))
section
variable {P : Program} {w : World} {K : PySem.W.Frag} {mg : Str → Option Value} {base : Heap} {Z : Ad}
theorem firstWrong_good {dsk : List Str} : ∀ (ds : List PyData) (i : Nat), (∀ d ∈ ds, isDeedD dsk d = true) → firstWrong dsk i ds = none
  | [], _, _ => rfl
  | d :: r, i, h => by
    show (if isDeedD dsk d = true then _ else _) = _
    rw [if_pos (h d List.mem_cons_self)]
    exact firstWrong_good r (i + 1) fun e m => h e (List.mem_cons_of_mem _ m)
theorem check_good {dsk : List Str} {ds : List PyData} (h : ∀ d ∈ ds, isDeedD dsk d = true) (hd : ds = [] ∨ headW ds = true) : checkD dsk (.list ds) = .ok := by
  unfold checkD
  have e : wrongD dsk (.list ds) = none := firstWrong_good ds 0 h
  rw [e]
  rcases hd with rfl | hd
  · rfl
  · cases ds with
    | nil => rfl
    | cons d r =>
      show (if headW (d :: r) = true then ChkR.ok else ChkR.noTicket) = _
      rw [if_pos hd]
theorem DeedIs.short {dsk : List Str} {d : PyData} (h : DeedIs dsk d) : okForm d := by
  intro xs e
  cases h <;> (injection e with e; subst e; simp)
theorem DeedIs.tp {dsk : List Str} {d : PyData} (h : DeedIs dsk d) : tpD 1 d := by
  cases h <;> (intro e m; simp only [List.mem_cons, List.not_mem_nil, or_false] at m; first | (rcases m with rfl | rfl <;> rfl) | (cases m; rfl))
theorem faults_new {H : Hp} {Q : VK} {E : XK} {ba : Addr} {v : V} {dsk : List Str} {rs ds : List PyData} (bk : BookIs K Z.Book H (.ref ba) dsk rs) (hv : Dp K H v (.list ds)) (l : ds.length ≤ 1000) (al : ∀ d ∈ ds, isDeedD dsk d = true) (hd : ds = [] ∨ headW ds = true)
    (q : ∀ D ys H', Same H H' → H D = none → H' D = some (.lst ys) → FsAll K H H' ys ((wrongT rs dsk ds).map faultD) → Q (.ref D) H') : spFaults K Z [.ref ba, v] H Q E := by
  refine ⟨ba, v, .list ds, dsk, rs, rfl, bk, Dt.dp hv, fun ds2 e => ?_, ?_⟩
  · injection e with e
    subst e
    exact ⟨l, fun e m => (deed_of (al e m)).short⟩
  · rw [check_good al hd]
    intro ds2 D ys H' e _ s n e1 fa
    injection e with e
    subst e
    exact q D ys H' s n e1 fa
theorem hist_good {H : Hp} {Q : VK} {E : XK} {ba : Addr} {v : V} {dsk : List Str} {rs ds : List PyData} (bk : BookIs K Z.Book H (.ref ba) dsk rs) (hv : Dp K H v (.list ds)) (l : ds.length ≤ 1000) (al : ∀ d ∈ ds, isDeedD dsk d = true) (hd : ds = [] ∨ headW ds = true)
    (q : ∀ v' H', Same H H' → Fs K H H' v' (.list ((wrongT rs dsk ds).map faultD)) → Q v' H') : spFaults K Z [.ref ba, v] H Q E :=
  faults_new bk hv l al hd fun D ys H' s n e fa => q _ H' s (fs_lst n e fa)
theorem paired_map {α β γ : Type} {R : α → β → Prop} {S : α → γ → Prop} {f : β → γ} (g : ∀ a b, R a b → S a (f b)) {xs : List α} {ys : List β} (h : Paired R xs ys) : Paired S xs (ys.map f) := by
  induction h with
  | nil => exact .nil
  | cons h _ ih => exact .cons (g _ _ h) ih
theorem play_new {H : Hp} {Q : VK} {E : XK} {ba : Addr} {v : V} {dsk : List Str} {rs ds : List PyData} (bk : BookIs K Z.Book H (.ref ba) dsk rs) (hv : Dp K H v (.list ds)) (l : ds.length ≤ 1000) (al : ∀ d ∈ ds, isDeedD dsk d = true) (hd : ds = [] ∨ headW ds = true)
    (q : ∀ D ys H', Same H H' → H D = none → H' D = some (.lst ys) → Paired (RepN H H') ys (turnsT (effT rs) dsk none ds) → Q (.ref D) H') : spPlay K Z [.ref ba, v] H Q E := by
  refine ⟨ba, v, .list ds, dsk, rs, rfl, bk, Dt.dp hv, fun ds2 e => ?_, ?_⟩
  · injection e with e
    subst e
    exact ⟨l, fun e m => (deed_of (al e m)).short⟩
  · rw [check_good al hd]
    intro ds2 D ys H' e _ s n e1 pr
    injection e with e
    subst e
    exact q D ys H' s n e1 pr
theorem play_good {H : Hp} {Q : VK} {E : XK} {ba : Addr} {v : V} {dsk : List Str} {rs ds : List PyData} (bk : BookIs K Z.Book H (.ref ba) dsk rs) (hv : Dp K H v (.list ds)) (l : ds.length ≤ 1000) (al : ∀ d ∈ ds, isDeedD dsk d = true) (hd : ds = [] ∨ headW ds = true)
    (q : ∀ v' H', Same H H' → Fs K H H' v' (.list (playT rs dsk ds)) → Q v' H') : spPlay K Z [.ref ba, v] H Q E :=
  play_new bk hv l al hd fun D ys H' s n e pr => q _ H' s (fs_lst n e (paired_map (fun _ _ z => z.fs) pr))
theorem head_take {ds : List PyData} (h : headW ds = true) (n : Nat) : ds.take n = [] ∨ headW (ds.take n) = true := by
  cases n with
  | zero => exact .inl rfl
  | succ n =>
    cases ds with
    | nil => exact .inl rfl
    | cons d r =>
      refine .inr ?_
      rw [List.take_succ_cons]
      have e : ∀ r' : List PyData, headW (d :: r') = headW (d :: r) := fun r' => by
        cases d with
        | tuple xs =>
          cases xs with
          | nil => rfl
          | cons x y => cases x <;> rfl
        | _ => rfl
      rw [e]
      exact h
/-- one thing drawn of each pot -/
theorem lcPots {H : Hp} {Q : VK} {σ : L2.St} {g : TG} {te : TE} {vs : List Nat} {lp : Addr} {ps : List Addr} {n0 cost : Nat} (good : PyData → Prop) (hl : H lp = some (.lst (ps.map V.ref))) (nlp : lp ∉ ps) (pa : PotsAt H ps n0) (few : ps.length ≤ 63)
    (step : ∀ i p H' (N : VK), p ∈ ps → i < ps.length → GrS ps H H' → PotAt H' p (n0 + i * cost) → (∀ v d H4, good d → Fd K H' H4 v d → Gr p H' H4 → PotAt H4 p (n0 + i * cost + cost) → N v H4) → g (.ref p) (wipe σ vs) H' fun σ2 H2 => wipe σ2 vs = wipe σ vs ∧ te σ2 H2 N)
    (hd : ∀ D H' ys ds, H D = none → GrS ps H H' → H' D = some (.lst ys) → PotsAt H' ps (n0 + ps.length * cost) → ds.length = ps.length → FdAll K H H' ys ds → (∀ d ∈ ds, good d) → Q (.ref D) H') : LcSeqL K g tYes te vs σ Q (.ref lp) H := by
  refine ⟨lp, rfl, ⟨_, .inl (.inl hl)⟩, ?_⟩
  refine lcAnyIn walk_list (fun D i H' => GrS ps H H' ∧ PotsAt H' ps (n0 + i * cost) ∧ ∃ ys ds, H' D = some (.lst ys) ∧ ys.length = i ∧ FdAll K (upd H D (.lst [])) H' ys ds ∧ ∀ d ∈ ds, good d) ?_ (fun D i H' _ z => .inl (.inl (z.1.keep _ _ nlp hl))) ?_ ?_
  · intro D nD
    have s : Same H (upd H D (.lst [])) := Same.put (Same.refl H) nD
    exact ⟨GrS.of s, by rw [Nat.zero_mul]; exact pa.same s, [], [], upd_same, rfl, .nil, fun _ z => nomatch z⟩
  · rintro D nD i x H0 H3 hi ⟨g3, pa3, ys, ds, eD, ly, F, gd⟩ y
    obtain ⟨rfl, hx⟩ := y
    rw [List.getElem?_map] at hx
    obtain ⟨pj, ep, rfl⟩ := Option.map_eq_some_iff.mp hx
    have mp : pj ∈ ps := List.mem_of_getElem? ep
    have hi2 : i < ps.length := (List.getElem?_eq_some_iff.mp ep).1
    unfold lcTurn
    refine step i pj H3 _ mp hi2 g3 (pa3.at_ _ mp) fun v d H4 gd' fd g4 p4 => ?_
    have Dps : D ∉ ps := fun z => (pa.at_ _ z).ne nD
    have Dpj : D ≠ pj := fun c => Dps (c ▸ mp)
    have e4 := g4.keep D _ Dpj eD
    have pa4 := pa3.gr g4 p4 (by omega)
    have hDD : upd H D (.lst []) D ≠ none := by rw [upd_same]; exact nofun
    have hpD : upd H D (.lst []) pj ≠ none := by rw [upd_ne (Ne.symm Dpj)]; exact (pa.at_ _ mp).ne
    have k45 : Keep (fun b => b = pj ∨ b = D) H4 (upd H4 D (.lst (ys ++ [v]))) := fun b o nb q => by
      rw [upd_ne fun z => nb (.inr z)]
      exact q
    have k35 : Keep (fun b => b = pj ∨ b = D) H3 (upd H4 D (.lst (ys ++ [v]))) := fun b o nb q => k45 b o nb (g4.keep b o (fun z => nb (.inl z)) q)
    have w3 : ∀ b, upd H D (.lst []) b ≠ none → H3 b ≠ none := fun b z => by
      by_cases c : b = D
      · rw [c, eD]; exact nofun
      · rw [upd_ne c] at z
        exact g3.ne b z
    refine ⟨ys, e4, by rw [ly, sizeLine_eq]; omega, ⟨fun b o nb q => ?_, fun b z => ?_⟩, ⟨pa4.nd, fun y my => ?_⟩, ys ++ [v], ds ++ [d], upd_same, by simp [ly], (F.later2 hpD hDD k35).snoc ((fd.weak w3).later2 hpD hDD k45), fun x mx => ?_⟩
    · rw [upd_ne (ne_of_none q nD)]
      exact g4.keep b o (fun c => nb (c ▸ mp)) (g3.keep b o nb q)
    · by_cases c : b = D
      · rw [c, upd_same]; exact nofun
      · rw [upd_ne c]; exact g4.dom b (g3.ne b z)
    · obtain ⟨x1, x2, x3, x4, x5⟩ := (pa4.at_ y my).mono (show n0 + i * cost + cost ≤ n0 + (i + 1) * cost by rw [Nat.succ_mul]; omega)
      have nyD : y ≠ D := fun c => Dps (c ▸ my)
      exact ⟨x1, x2, x3, by rw [upd_ne nyD]; exact x4, x5⟩
    · rcases List.mem_append.mp mx with mx | mx
      · exact gd x mx
      · rw [List.mem_singleton.mp mx]; exact gd'
  · rintro D nD H3 ⟨g3, pa3, ys, ds, eD, ly, F, gd⟩
    rw [List.length_map] at pa3 ly
    refine hd D H3 ys ds nD g3 eD pa3 (by rw [← F.len]; exact ly) (F.weak fun b z => ?_) gd
    by_cases c : b = D
    · rw [c, upd_same]; exact nofun
    · rw [upd_ne c]; exact z
end
end Ld

set_option Elab.async false
set_option linter.all false
set_option maxRecDepth 100000
set_option maxHeartbeats 2000000
/-! Desks by other names. -/
namespace Ld
open PySem PySem.Spec PyProof.Rows L2
theorem allCongr {α : Type} {xs : List α} {p q : α → Bool} (h : ∀ x ∈ xs, p x = q x) : xs.all p = xs.all q := by
  induction xs with
  | nil => rfl
  | cons x r ih => rw [List.all_cons, List.all_cons, h x List.mem_cons_self, ih fun y m => h y (List.mem_cons_of_mem _ m)]
/-- what the rules at an event look like -/
def RuOk (dsk : List Str) (r : Ru) : Prop := (∀ d ∈ r.2.1, TestIs dsk d) ∧ ∀ d ∈ r.2.2, ActIs dsk d
theorem rulesAt_ok {dsk : List Str} (ev : Str) : ∀ (rs : List PyData) (i : Nat), (∀ e ∈ rs, isRuleD dsk e = true) → ∀ r ∈ rulesAt ev i rs, RuOk dsk r
  | [], _, _ => fun _ m => nomatch m
  | d :: rs, i, h => by
    have ih := rulesAt_ok ev rs (i + 1) fun e m => h e (List.mem_cons_of_mem _ m)
    obtain ⟨z, ts, as, rfl, _, _, l, ht, ha⟩ := rule_of (h _ List.mem_cons_self)
    intro r m
    rw [rulesAt_cons] at m
    rcases List.mem_append.mp m with m | m
    · split at m
      · rw [List.mem_singleton.mp m]
        exact ⟨ht, ha⟩
      · cases m
    · exact ih r m
def rnTk (f : Str → Str) (t : Tk) : Tk := { t with desk := f t.desk }
def rnEf (f : Str → Str) (e : Ef) : Ef := { e with tk := rnTk f e.tk }
def rnTn (f : Str → Str) (t : Tn) : Tn := { t with behind := rnTk f t.behind }
/-- a test, an action or a deed with other names -/
def rnD (f : Str → Str) : PyData → PyData
  | .tuple (.str k :: .str z :: r) => if k = "desk" ∨ k = "hand" then .tuple (.str k :: .str (f z) :: r) else .tuple (.str k :: .str z :: r)
  | d => d
def rnRu (f : Str → Str) (r : Ru) : Ru := (r.1, r.2.1.map (rnD f), r.2.2.map (rnD f))
def rnRule (f : Str → Str) : PyData → PyData
  | .tuple [ev, .tuple ts, .tuple as] => .tuple [ev, .tuple (ts.map (rnD f)), .tuple (as.map (rnD f))]
  | d => d
def InjOn (f : Str → Str) (dsk : List Str) : Prop := ∀ a ∈ dsk, ∀ b ∈ dsk, f a = f b → a = b
section
variable {f : Str → Str} {dsk : List Str}
theorem rn_no {k z : Str} {r : List PyData} (h : ¬ (k = "desk" ∨ k = "hand")) : rnD f (.tuple (.str k :: .str z :: r)) = .tuple (.str k :: .str z :: r) := by
  show (if k = "desk" ∨ k = "hand" then PyData.tuple (.str k :: .str (f z) :: r) else .tuple (.str k :: .str z :: r)) = _
  exact if_neg h
theorem rn_desk {z : Str} {r : List PyData} : rnD f (.tuple (.str "desk" :: .str z :: r)) = .tuple (.str "desk" :: .str (f z) :: r) := by
  show (if ("desk" : Str) = "desk" ∨ ("desk" : Str) = "hand" then PyData.tuple (.str "desk" :: .str (f z) :: r) else .tuple (.str "desk" :: .str z :: r)) = _
  exact if_pos (.inl rfl)
theorem rn_hand {z : Str} {r : List PyData} : rnD f (.tuple (.str "hand" :: .str z :: r)) = .tuple (.str "hand" :: .str (f z) :: r) := by
  show (if ("hand" : Str) = "desk" ∨ ("hand" : Str) = "hand" then PyData.tuple (.str "hand" :: .str (f z) :: r) else .tuple (.str "hand" :: .str z :: r)) = _
  exact if_pos (.inr rfl)
theorem inj_iff (i : InjOn f dsk) {a b : Str} (ha : a ∈ dsk) (hb : b ∈ dsk) : (f a = f b) = (a = b) := propext ⟨i a ha b hb, fun e => e ▸ rfl⟩
theorem holds_desk {t : Tk} {z : Str} {b : Bool} : holdsT t (.tuple [.str "desk", .str z, .bool b]) = decide (decide (t.desk = z) = b) := by
  show (if ("desk" : Str) = "status" then decide (decide (t.status = z) = b) else decide (decide (t.desk = z) = b)) = _
  exact if_neg (by decide)
theorem holds_status {t : Tk} {z : Str} {b : Bool} : holdsT t (.tuple [.str "status", .str z, .bool b]) = decide (decide (t.status = z) = b) := by
  show (if ("status" : Str) = "status" then decide (decide (t.status = z) = b) else decide (decide (t.desk = z) = b)) = _
  exact if_pos rfl
theorem act_desk {e : Ef} {z : Str} : actT e (.tuple [.str "desk", .str z]) = moveS e z := by
  show (if ("desk" : Str) = "status" then setS e z else moveS e z) = _
  exact if_neg (by decide)
theorem act_status {e : Ef} {z : Str} : actT e (.tuple [.str "status", .str z]) = setS e z := by
  show (if ("status" : Str) = "status" then setS e z else moveS e z) = _
  exact if_pos rfl
theorem holds_rn (i : InjOn f dsk) {d : PyData} {t : Tk} (h : TestIs dsk d) (m : t.desk ∈ dsk) : holdsT (rnTk f t) (rnD f d) = holdsT t d := by
  cases h with
  | status z b h => rw [rn_no (by decide)]; rfl
  | desk z b h =>
    rw [rn_desk]
    rw [holds_desk, holds_desk]
    show decide (decide (f t.desk = f z) = b) = _
    simp only [inj_iff i m h]
  | answered b => rfl
  | marked b => rfl
  | days n h g => rfl
theorem stop_rn {a : PyData} (h : ActIs dsk a) : isStop (rnD f a) = isStop a := by
  cases h with
  | status z h => rw [rn_no (by decide)]
  | desk z h => rw [rn_desk]; rfl
  | reply => rfl
  | mark b => rfl
  | stop => rfl
theorem act_rn (i : InjOn f dsk) {a : PyData} {e : Ef} (h : ActIs dsk a) (m : e.tk.desk ∈ dsk) : actT (rnEf f e) (rnD f a) = rnEf f (actT e a) ∧ (actT e a).tk.desk ∈ dsk := by
  cases h with
  | status z h =>
    rw [rn_no (by decide), act_status, act_status]
    unfold setS
    constructor
    · show (if e.tk.status = z then _ else _) = _
      split <;> rfl
    · split <;> exact m
  | desk z h =>
    rw [rn_desk, act_desk, act_desk]
    unfold moveS
    constructor
    · show (if f e.tk.desk = f z then _ else _) = _
      by_cases c : e.tk.desk = z
      · rw [if_pos c, if_pos (congrArg f c)]
      · rw [if_neg c, if_neg fun y => c (i _ m _ h y)]
        rfl
    · split
      · exact m
      · exact h
  | reply => exact ⟨rfl, m⟩
  | mark b => exact ⟨rfl, m⟩
  | stop => exact ⟨rfl, m⟩
theorem carry_rn (i : InjOn f dsk) : ∀ (as : List PyData) (e : Ef), (∀ a ∈ as, ActIs dsk a) → e.tk.desk ∈ dsk → carryT (rnEf f e) (as.map (rnD f)) = (rnEf f (carryT e as).1, (carryT e as).2) ∧ (carryT e as).1.tk.desk ∈ dsk
  | [], e, _, m => ⟨rfl, m⟩
  | a :: r, e, h, m => by
    have ha := h a List.mem_cons_self
    obtain ⟨x, y⟩ := act_rn i ha m
    obtain ⟨p, q⟩ := carry_rn i r (actT e a) (fun b k => h b (List.mem_cons_of_mem _ k)) y
    show (if isStop (rnD f a) then _ else carryT (actT (rnEf f e) (rnD f a)) (r.map (rnD f))) = (rnEf f (if isStop a then (e, true) else carryT (actT e a) r).1, (if isStop a then (e, true) else carryT (actT e a) r).2) ∧ (if isStop a then (e, true) else carryT (actT e a) r).1.tk.desk ∈ dsk
    rw [stop_rn ha, x, p]
    split
    · exact ⟨rfl, m⟩
    · exact ⟨rfl, q⟩
theorem tryT_cons (k : Int) (ts as : List PyData) (r : List Ru) (e : Ef) : tryT e ((k, ts, as) :: r) = if ts.all (holdsT e.tk) then (if (carryT { e with acted := e.acted ++ [k] } as).2 then (carryT { e with acted := e.acted ++ [k] } as).1 else tryT (carryT { e with acted := e.acted ++ [k] } as).1 r) else tryT e r := rfl
theorem try_rn (i : InjOn f dsk) : ∀ (rs : List Ru) (e : Ef), (∀ r ∈ rs, RuOk dsk r) → e.tk.desk ∈ dsk → tryT (rnEf f e) (rs.map (rnRu f)) = rnEf f (tryT e rs) ∧ (tryT e rs).tk.desk ∈ dsk
  | [], e, _, m => ⟨rfl, m⟩
  | (k, ts, as) :: r, e, h, m => by
    obtain ⟨ht, ha⟩ := h _ List.mem_cons_self
    have hr : ∀ x ∈ r, RuOk dsk x := fun x z => h x (List.mem_cons_of_mem _ z)
    obtain ⟨p, q⟩ := carry_rn i as { e with acted := e.acted ++ [k] } ha m
    have e1 : ({ rnEf f e with acted := (rnEf f e).acted ++ [k] } : Ef) = rnEf f { e with acted := e.acted ++ [k] } := rfl
    have et : (ts.map (rnD f)).all (holdsT (rnEf f e).tk) = ts.all (holdsT e.tk) := by
      rw [List.all_map]
      refine allCongr fun d hd => ?_
      exact holds_rn i (ht d hd) m
    show tryT (rnEf f e) ((k, ts.map (rnD f), as.map (rnD f)) :: r.map (rnRu f)) = _ ∧ _
    rw [tryT_cons, tryT_cons, et, e1, p]
    dsimp only
    obtain ⟨p1, q1⟩ := try_rn i r _ hr q
    obtain ⟨p2, q2⟩ := try_rn i r e hr m
    rw [p1, p2]
    split
    · split
      · exact ⟨rfl, q⟩
      · exact ⟨rfl, q1⟩
    · exact ⟨rfl, q2⟩
theorem rulesAt_rn (ev : Str) : ∀ (rs : List PyData) (k : Nat), (∀ e ∈ rs, isRuleD dsk e = true) → rulesAt ev k (rs.map (rnRule f)) = (rulesAt ev k rs).map (rnRu f)
  | [], _, _ => rfl
  | d :: rs, k, h => by
    have ih := rulesAt_rn ev rs (k + 1) fun e m => h e (List.mem_cons_of_mem _ m)
    obtain ⟨z, ts, as, rfl, _⟩ := rule_of (h _ List.mem_cons_self)
    show rulesAt ev k (PyData.tuple [.str z, .tuple (ts.map (rnD f)), .tuple (as.map (rnD f))] :: rs.map (rnRule f)) = _
    rw [rulesAt_cons, rulesAt_cons, ih, List.map_append]
    split <;> rfl
theorem eff_rn (i : InjOn f dsk) {rs : List PyData} (h : ∀ e ∈ rs, isRuleD dsk e = true) (ev : Str) {t : Tk} (m : t.desk ∈ dsk) : effT (rs.map (rnRule f)) ev (rnTk f t) = rnEf f (effT rs ev t) ∧ (effT rs ev t).tk.desk ∈ dsk := by
  unfold effT
  rw [rulesAt_rn ev rs 0 h]
  exact try_rn i _ (efNew t) (rulesAt_ok ev rs 0 h) m
/-- what rules do, and what they do by other names -/
def EfRn (f : Str → Str) (dsk : List Str) (ef ef' : Str → Tk → Ef) : Prop := ∀ ev t, t.desk ∈ dsk → ef' ev (rnTk f t) = rnEf f (ef ev t) ∧ (ef ev t).tk.desk ∈ dsk
theorem queue_rn {ef ef' : Str → Tk → Ef} (g : EfRn f dsk ef ef') : ∀ (n : Nat) (q : List Str) (t : Tn), t.behind.desk ∈ dsk → queueT ef' n q (rnTn f t) = ((queueT ef n q t).1, rnTn f (queueT ef n q t).2) ∧ (queueT ef n q t).2.behind.desk ∈ dsk
  | 0, q, t, m => ⟨rfl, m⟩
  | n + 1, [], t, m => ⟨rfl, m⟩
  | n + 1, ev :: q, t, m => by
    obtain ⟨x, y⟩ := g ev t.behind m
    show queueT ef' n (q ++ (ef' ev (rnTk f t.behind)).events) (takeT (rnTn f t) (ef' ev (rnTk f t.behind))) = _ ∧ _
    rw [x]
    exact queue_rn g n (q ++ (ef ev t.behind).events) (takeT t (ef ev t.behind)) y
theorem run_rn {ef ef' : Str → Tk → Ef} (g : EfRn f dsk ef ef') (ev : Option Str) {t : Tk} (m : t.desk ∈ dsk) : runT ef' ev (rnTk f t) = rnTn f (runT ef ev t) ∧ (runT ef ev t).behind.desk ∈ dsk := by
  obtain ⟨x, y⟩ := queue_rn g 50 (firstQ ev) (tnNew ev t) m
  unfold runT
  have e : tnNew ev (rnTk f t) = rnTn f (tnNew ev t) := rfl
  rw [e, x]
  exact ⟨rfl, y⟩
theorem begun_rn (i : InjOn f dsk) {dsk' : List Str} (hd : dsk'.headD ("" : Str) = f (dsk.headD ("" : Str))) (hm : dsk.headD ("" : Str) ∈ dsk) {tk : Option Tk} {d : PyData} (h : DeedIs dsk d) (m : ∀ t, tk = some t → t.desk ∈ dsk) :
    begunT dsk' (tk.map (rnTk f)) (rnD f d) = ((begunT dsk tk d).1, rnTk f (begunT dsk tk d).2) ∧ (begunT dsk tk d).2.desk ∈ dsk := by
  have e0 : (tk.map (rnTk f)).getD ⟨"new", dsk'.headD ("" : Str), false, 0, false⟩ = rnTk f (tk.getD ⟨"new", dsk.headD ("" : Str), false, 0, false⟩) := by
    cases tk with
    | none =>
      show Tk.mk "new" (dsk'.headD ("" : Str)) false 0 false = _
      rw [hd]
      rfl
    | some t => rfl
  have m0 : (tk.getD ⟨"new", dsk.headD ("" : Str), false, 0, false⟩).desk ∈ dsk := by
    cases tk with
    | none => exact hm
    | some t => exact m t rfl
  unfold begunT
  rw [e0]
  generalize tk.getD ⟨"new", dsk.headD ("" : Str), false, 0, false⟩ = t at m0 ⊢
  cases h with
  | letter => exact ⟨rfl, m0⟩
  | answer => exact ⟨rfl, m0⟩
  | day => exact ⟨rfl, m0⟩
  | hand z h =>
    rw [rn_hand]
    refine ⟨?_, h⟩
    show ((if f t.desk = f z then (none : Option Str) else some ("moved" : Str)), ({ rnTk f t with desk := f z } : Tk)) = ((if t.desk = z then (none : Option Str) else some ("moved" : Str)), rnTk f { t with desk := z })
    by_cases c : t.desk = z
    · rw [if_pos c, if_pos (congrArg f c)]
      rfl
    · rw [if_neg c, if_neg fun e => c (i _ m0 _ h e)]
      rfl
  | set z h =>
    rw [rn_no (by decide)]
    exact ⟨rfl, m0⟩
theorem turns_rn (i : InjOn f dsk) {ef ef' : Str → Tk → Ef} (g : EfRn f dsk ef ef') {dsk' : List Str} (hd : dsk'.headD ("" : Str) = f (dsk.headD ("" : Str))) (hm : dsk.headD ("" : Str) ∈ dsk) : ∀ (ds : List PyData) (tk : Option Tk), (∀ d ∈ ds, DeedIs dsk d) → (∀ t, tk = some t → t.desk ∈ dsk) →
    turnsT ef' dsk' (tk.map (rnTk f)) (ds.map (rnD f)) = (turnsT ef dsk tk ds).map (rnTn f)
  | [], _, _, _ => rfl
  | d :: r, tk, h, m => by
    obtain ⟨x, y⟩ := begun_rn i hd hm (h d List.mem_cons_self) m
    obtain ⟨p, q⟩ := run_rn g (begunT dsk tk d).1 y
    have e1 : turnT ef' dsk' (tk.map (rnTk f)) (rnD f d) = rnTn f (turnT ef dsk tk d) := by
      unfold turnT
      rw [x]
      exact p
    show turnT ef' dsk' (tk.map (rnTk f)) (rnD f d) :: turnsT ef' dsk' (some (turnT ef' dsk' (tk.map (rnTk f)) (rnD f d)).behind) (r.map (rnD f)) = rnTn f (turnT ef dsk tk d) :: (turnsT ef dsk (some (turnT ef dsk tk d).behind) r).map (rnTn f)
    rw [e1]
    congr 1
    exact turns_rn i g hd hm r (some (turnT ef dsk tk d).behind) (fun b k => h b (List.mem_cons_of_mem _ k)) fun t e => by injection e with e; subst e; exact q
theorem faults_rn : ∀ (ts : List Tn) (k : Nat), faultsOf k (ts.map (rnTn f)) = faultsOf k ts
  | [], _ => rfl
  | t :: r, k => by
    show t.kinds.map _ ++ faultsOf (k + 1) (r.map (rnTn f)) = t.kinds.map _ ++ _
    rw [faults_rn r]
theorem test_mk {d : PyData} (h : TestIs dsk d) : hasForm testForms dsk d = true := by
  cases h with
  | status z b h => exact ft_status h
  | desk z b h => exact ft_desk h
  | answered b => exact ft_answered
  | marked b => exact ft_marked
  | days n h g => exact ft_days h g
theorem act_mk {d : PyData} (h : ActIs dsk d) : hasForm actionForms dsk d = true := by
  cases h with
  | status z h => exact fa_status h
  | desk z h => exact fa_desk h
  | reply => exact fa_reply
  | mark b => exact fa_mark
  | stop => exact fa_stop
theorem deed_mk {d : PyData} (h : DeedIs dsk d) : isDeedD dsk d = true := by
  cases h with
  | letter => rfl
  | answer => rfl
  | day => rfl
  | hand z h =>
    have e : isDeedD dsk (.tuple [.str "hand", .str z]) = (isWordD dsk (.str z) && true) := rfl
    rw [e, word_mem h]
    rfl
  | set z h =>
    have e : isDeedD dsk (.tuple [.str "set", .str z]) = (isWordD statusesS (.str z) && true) := rfl
    rw [e, word_mem h]
    rfl
theorem test_rn {d : PyData} (h : TestIs dsk d) : TestIs (dsk.map f) (rnD f d) := by
  cases h with
  | status z b h => rw [rn_no (by decide)]; exact .status z b h
  | desk z b h => rw [rn_desk]; exact .desk _ b (List.mem_map.mpr ⟨z, h, rfl⟩)
  | answered b => exact .answered b
  | marked b => exact .marked b
  | days n h g => exact .days n h g
theorem actI_rn {d : PyData} (h : ActIs dsk d) : ActIs (dsk.map f) (rnD f d) := by
  cases h with
  | status z h => rw [rn_no (by decide)]; exact .status z h
  | desk z h => rw [rn_desk]; exact .desk _ (List.mem_map.mpr ⟨z, h, rfl⟩)
  | reply => exact .reply
  | mark b => exact .mark b
  | stop => exact .stop
theorem deed_rn {d : PyData} (h : DeedIs dsk d) : DeedIs (dsk.map f) (rnD f d) := by
  cases h with
  | letter => exact .letter
  | answer => exact .answer
  | day => exact .day
  | hand z h => rw [rn_hand]; exact .hand _ (List.mem_map.mpr ⟨z, h, rfl⟩)
  | set z h => rw [rn_no (by decide)]; exact .set z h
theorem rule_rn {d : PyData} (h : isRuleD dsk d = true) : isRuleD (dsk.map f) (rnRule f d) = true := by
  obtain ⟨z, ts, as, rfl, hz, l1, l2, ht, ha⟩ := rule_of h
  have l3 : 1 ≤ as.length := by
    unfold isRuleD at h
    simp only [Bool.and_eq_true, decide_eq_true_eq] at h
    exact h.1.1.2
  show (isWordD eventsS (.str z) && decide ((ts.map (rnD f)).length ≤ 4) && (ts.map (rnD f)).all (hasForm testForms (dsk.map f)) && decide (1 ≤ (as.map (rnD f)).length) && decide ((as.map (rnD f)).length ≤ 4) && (as.map (rnD f)).all (hasForm actionForms (dsk.map f))) = true
  simp only [Bool.and_eq_true, decide_eq_true_eq, List.all_eq_true, List.length_map]
  refine ⟨⟨⟨⟨⟨word_mem hz, l1⟩, fun t m => ?_⟩, l3⟩, l2⟩, fun t m => ?_⟩
  · obtain ⟨t0, m0, rfl⟩ := List.mem_map.mp m
    exact test_mk (test_rn (ht t0 m0))
  · obtain ⟨t0, m0, rfl⟩ := List.mem_map.mp m
    exact act_mk (actI_rn (ha t0 m0))
theorem inj_of_map : ∀ {dsk : List Str}, (dsk.map f).Nodup → InjOn f dsk
  | [], _ => fun _ m => nomatch m
  | z :: r, h => by
    rw [List.map_cons, List.nodup_cons] at h
    have ih := inj_of_map h.2
    intro a ma b mb e
    rcases List.mem_cons.mp ma with e1 | m1 <;> rcases List.mem_cons.mp mb with e2 | m2
    · rw [e1, e2]
    · rw [e1] at e
      exact absurd (List.mem_map.mpr ⟨b, m2, e.symm⟩ : f z ∈ r.map f) h.1
    · rw [e2] at e
      exact absurd (List.mem_map.mpr ⟨a, m1, e⟩ : f z ∈ r.map f) h.1
    · exact ih a m1 b m2 e
/-- names by places are names by names -/
theorem names_of {oth : List Str} (l : oth.length = dsk.length) (nd : dsk.Nodup) : ∃ f : Str → Str, oth = dsk.map f ∧ ∀ (j : Nat) (z y : Str), dsk[j]? = some z → oth[j]? = some y → y = f z := by
  have key : ∀ (j : Nat) (z y : Str), dsk[j]? = some z → oth[j]? = some y → y = (oth[dsk.idxOf z]?).getD "" := fun j z y h1 h2 => by
    obtain ⟨hj, e⟩ := List.getElem?_eq_some_iff.mp h1
    have ei : dsk.idxOf z = j := by
      rw [← e]
      exact List.Nodup.idxOf_getElem nd j hj
    rw [ei, h2]
    rfl
  refine ⟨fun z => (oth[dsk.idxOf z]?).getD "", List.ext_getElem (by simp [l]) fun i h1 h2 => ?_, key⟩
  rw [List.getElem_map]
  exact key i _ _ (List.getElem?_eq_getElem (by simpa using h2)) (List.getElem?_eq_getElem h1)
end
end Ld

set_option Elab.async false
set_option linter.all false
set_option maxRecDepth 100000
set_option maxHeartbeats 2000000
/-! Rules that do not act, rules by other indexes. -/
namespace Ld
open PySem PySem.Spec PyProof.Rows L2
def ixEf (π : Int → Int) (e : Ef) : Ef := { e with acted := e.acted.map π }
def ixTn (π : Int → Int) (t : Tn) : Tn := { t with acted := t.acted.map π }
def ixRu (π : Int → Int) (r : Ru) : Ru := (π r.1, r.2)
section
variable {π : Int → Int} {out : List Int}
theorem act_ix (e : Ef) (a : PyData) : actT (ixEf π e) a = ixEf π (actT e a) := by
  unfold actT
  split
  · split
    · unfold setS
      show (if e.tk.status = _ then _ else _) = _
      split <;> rfl
    · unfold moveS
      show (if e.tk.desk = _ then _ else _) = _
      split <;> rfl
  · rfl
  · rfl
theorem carry_ix : ∀ (as : List PyData) (e : Ef), carryT (ixEf π e) as = (ixEf π (carryT e as).1, (carryT e as).2)
  | [], e => rfl
  | a :: r, e => by
    unfold carryT
    split
    · rfl
    · rw [act_ix, carry_ix r]
theorem try_ix : ∀ (rs : List Ru) (e : Ef), tryT (ixEf π e) (rs.map (ixRu π)) = ixEf π (tryT e rs)
  | [], e => rfl
  | (k, ts, as) :: r, e => by
    have e1 : ({ ixEf π e with acted := (ixEf π e).acted ++ [π k] } : Ef) = ixEf π { e with acted := e.acted ++ [k] } := by
      show Ef.mk _ _ _ _ _ _ = Ef.mk _ _ _ _ _ _
      rw [List.map_append]
      rfl
    show (if ts.all (holdsT e.tk) then (if (carryT { ixEf π e with acted := (ixEf π e).acted ++ [π k] } as).2 then (carryT { ixEf π e with acted := (ixEf π e).acted ++ [π k] } as).1 else tryT (carryT { ixEf π e with acted := (ixEf π e).acted ++ [π k] } as).1 (r.map (ixRu π))) else tryT (ixEf π e) (r.map (ixRu π))) = _
    rw [e1, carry_ix]
    dsimp only
    rw [try_ix r, try_ix r]
    conv => rhs; unfold tryT
    split
    · split <;> rfl
    · rfl
theorem try_more : ∀ (rs : List Ru) (e : Ef), ∀ k ∈ e.acted, k ∈ (tryT e rs).acted
  | [], e, k, m => m
  | (i, ts, as) :: r, e, k, m => by
    have h : k ∈ (carryT { e with acted := e.acted ++ [i] } as).1.acted := by
      rw [carryT_ac]
      exact List.mem_append_left _ m
    unfold tryT
    split
    · split
      · exact h
      · exact try_more r _ k h
    · exact try_more r e k m
theorem try_skip : ∀ (rs : List Ru) (e : Ef), (∀ k ∈ out, k ∉ (tryT e rs).acted) → tryT e (rs.filter fun r => decide (r.1 ∉ out)) = tryT e rs
  | [], e, _ => rfl
  | (i, ts, as) :: r, e, h => by
    have hi : i ∈ (carryT { e with acted := e.acted ++ [i] } as).1.acted := by
      rw [carryT_ac]
      simp
    unfold tryT at h
    by_cases c : i ∈ out
    · rw [List.filter_cons_of_neg (by simpa using c)]
      by_cases t : ts.all (holdsT e.tk) = true
      · rw [if_pos t] at h
        exfalso
        split at h
        · exact h i c hi
        · exact h i c (try_more r _ i hi)
      · rw [if_neg t] at h
        rw [try_skip r e h]
        conv => rhs; unfold tryT
        rw [if_neg t]
    · rw [List.filter_cons_of_pos (by simpa using c)]
      unfold tryT
      by_cases t : ts.all (holdsT e.tk) = true
      · rw [if_pos t] at h
        rw [if_pos t, if_pos t]
        split
        · rfl
        · rename_i s
          rw [if_neg s] at h
          exact try_skip r _ h
      · rw [if_neg t] at h
        rw [if_neg t, if_neg t]
        exact try_skip r e h
/-- the same by other indexes, where none of some acts -/
def EfIx (π : Int → Int) (out : List Int) (ef ef' : Str → Tk → Ef) : Prop := ∀ ev t, (∀ k ∈ out, k ∉ (ef ev t).acted) → ef' ev t = ixEf π (ef ev t)
theorem queue_more (ef : Str → Tk → Ef) : ∀ (n : Nat) (q : List Str) (t : Tn), ∀ k ∈ t.acted, k ∈ (queueT ef n q t).2.acted
  | 0, q, t, k, m => m
  | n + 1, [], t, k, m => m
  | n + 1, ev :: q, t, k, m => queue_more ef n (q ++ (ef ev t.behind).events) (takeT t (ef ev t.behind)) k (List.mem_append_left _ m)
theorem take_ix (t : Tn) (e : Ef) : takeT (ixTn π t) (ixEf π e) = ixTn π (takeT t e) := by
  show Tn.mk _ _ (t.acted.map π ++ e.acted.map π) _ _ _ _ _ = Tn.mk _ _ ((t.acted ++ e.acted).map π) _ _ _ _ _
  rw [List.map_append]
  rfl
theorem queue_ix {ef ef' : Str → Tk → Ef} (g : EfIx π out ef ef') : ∀ (n : Nat) (q : List Str) (t : Tn), (∀ k ∈ out, k ∉ (queueT ef n q t).2.acted) → queueT ef' n q (ixTn π t) = ((queueT ef n q t).1, ixTn π (queueT ef n q t).2)
  | 0, q, t, _ => rfl
  | n + 1, [], t, _ => rfl
  | n + 1, ev :: q, t, h => by
    have h : ∀ k ∈ out, k ∉ (queueT ef n (q ++ (ef ev t.behind).events) (takeT t (ef ev t.behind))).2.acted := h
    have x : ef' ev t.behind = ixEf π (ef ev t.behind) := g ev t.behind fun k m c => h k m (queue_more ef n _ _ k (List.mem_append_right _ c))
    show queueT ef' n (q ++ (ef' ev t.behind).events) (takeT (ixTn π t) (ef' ev t.behind)) = _
    rw [x, take_ix]
    exact queue_ix g n (q ++ (ef ev t.behind).events) (takeT t (ef ev t.behind)) h
theorem kinds_ix (t : Tn) : kindsT (ixTn π t) = kindsT t := by
  unfold kindsT
  have e : (ixTn π t).acted.length = t.acted.length := List.length_map ..
  rw [e]
  rfl
theorem run_ix {ef ef' : Str → Tk → Ef} (g : EfIx π out ef ef') (ev : Option Str) (t : Tk) (h : ∀ k ∈ out, k ∉ (runT ef ev t).acted) : runT ef' ev t = ixTn π (runT ef ev t) := by
  have x := queue_ix g 50 (firstQ ev) (tnNew ev t) h
  unfold runT
  have e : tnNew ev t = ixTn π (tnNew ev t) := rfl
  rw [e, x]
  unfold endT
  dsimp only
  have k := kinds_ix (π := π) { (queueT ef 50 (firstQ ev) (tnNew ev t)).2 with endless := !(queueT ef 50 (firstQ ev) (tnNew ev t)).1.isEmpty }
  show Tn.mk _ _ _ _ _ _ _ _ = Tn.mk _ _ _ _ _ _ _ _
  congr 1
theorem turns_ix {ef ef' : Str → Tk → Ef} (g : EfIx π out ef ef') (dsk : List Str) : ∀ (ds : List PyData) (tk : Option Tk), (∀ t ∈ turnsT ef dsk tk ds, ∀ k ∈ out, k ∉ t.acted) → turnsT ef' dsk tk ds = (turnsT ef dsk tk ds).map (ixTn π)
  | [], _, _ => rfl
  | d :: r, tk, h => by
    have x : turnT ef' dsk tk d = ixTn π (turnT ef dsk tk d) := run_ix g _ _ (h _ List.mem_cons_self)
    show turnT ef' dsk tk d :: turnsT ef' dsk (some (turnT ef' dsk tk d).behind) r = ixTn π (turnT ef dsk tk d) :: (turnsT ef dsk (some (turnT ef dsk tk d).behind) r).map (ixTn π)
    rw [x]
    congr 1
    exact turns_ix g dsk r _ fun t m => h t (List.mem_cons_of_mem _ m)
theorem faults_ix : ∀ (ts : List Tn) (k : Nat), faultsOf k (ts.map (ixTn π)) = faultsOf k ts
  | [], _ => rfl
  | t :: r, k => by
    show t.kinds.map _ ++ faultsOf (k + 1) (r.map (ixTn π)) = t.kinds.map _ ++ _
    rw [faults_ix r]
theorem efIx_of {rs rs' : List PyData} (h : ∀ ev, rulesAt ev 0 rs' = ((rulesAt ev 0 rs).filter fun r => decide (r.1 ∉ out)).map (ixRu π)) : EfIx π out (effT rs) (effT rs') := fun ev t no => by
  unfold effT at no ⊢
  rw [h ev]
  have x := try_ix (π := π) ((rulesAt ev 0 rs).filter fun r => decide (r.1 ∉ out)) (efNew t)
  rw [try_skip _ _ no] at x
  exact x
end
/-- a rule's indexes are where it stands -/
theorem rulesAt_ge {dsk : List Str} (ev : Str) : ∀ (rs : List PyData) (i : Nat), (∀ e ∈ rs, isRuleD dsk e = true) → ∀ r ∈ rulesAt ev i rs, (i : Int) ≤ r.1 ∧ r.1 < ((i + rs.length : Nat) : Int)
  | [], _, _ => fun _ m => nomatch m
  | d :: rs, i, h => by
    have ih := rulesAt_ge ev rs (i + 1) fun e m => h e (List.mem_cons_of_mem _ m)
    obtain ⟨z, ts, as, rfl, _⟩ := rule_of (h _ List.mem_cons_self)
    intro r m
    rw [rulesAt_cons] at m
    simp only [List.length_cons]
    rcases List.mem_append.mp m with m | m
    · split at m
      · rw [List.mem_singleton.mp m]
        dsimp only
        omega
      · cases m
    · have := ih r m
      omega
end Ld

set_option Elab.async false
set_option linter.all false
set_option maxRecDepth 100000
set_option maxHeartbeats 2000000
/-! Tickets of good histories; what is told of them can be held against each other. -/
namespace Ld
open PySem PySem.Spec PyProof.Rows L2
def TkOk (dsk : List Str) (t : Tk) : Prop := t.status ∈ statusesS ∧ t.desk ∈ dsk
section
variable {dsk : List Str}
theorem act_ok {a : PyData} {e : Ef} (h : ActIs dsk a) (m : TkOk dsk e.tk) : TkOk dsk (actT e a).tk := by
  cases h with
  | status z h =>
    rw [act_status]
    unfold setS
    split
    · exact m
    · exact ⟨h, m.2⟩
  | desk z h =>
    rw [act_desk]
    unfold moveS
    split
    · exact m
    · exact ⟨m.1, h⟩
  | reply => exact m
  | mark b => exact m
  | stop => exact m
theorem carry_ok : ∀ (as : List PyData) (e : Ef), (∀ a ∈ as, ActIs dsk a) → TkOk dsk e.tk → TkOk dsk (carryT e as).1.tk
  | [], e, _, m => m
  | a :: r, e, h, m => by
    unfold carryT
    split
    · exact m
    · exact carry_ok r _ (fun b k => h b (List.mem_cons_of_mem _ k)) (act_ok (h a List.mem_cons_self) m)
theorem try_ok : ∀ (rs : List Ru) (e : Ef), (∀ r ∈ rs, RuOk dsk r) → TkOk dsk e.tk → TkOk dsk (tryT e rs).tk
  | [], e, _, m => m
  | (k, ts, as) :: r, e, h, m => by
    have hr : ∀ x ∈ r, RuOk dsk x := fun x z => h x (List.mem_cons_of_mem _ z)
    have c : TkOk dsk (carryT { e with acted := e.acted ++ [k] } as).1.tk := carry_ok as _ (h _ List.mem_cons_self).2 m
    rw [tryT_cons]
    split
    · split
      · exact c
      · exact try_ok r _ hr c
    · exact try_ok r e hr m
theorem eff_ok {rs : List PyData} (h : ∀ e ∈ rs, isRuleD dsk e = true) (ev : Str) {t : Tk} (m : TkOk dsk t) : TkOk dsk (effT rs ev t).tk := try_ok _ (efNew t) (rulesAt_ok ev rs 0 h) m
theorem queue_ok {ef : Str → Tk → Ef} (g : ∀ ev t, TkOk dsk t → TkOk dsk (ef ev t).tk) : ∀ (n : Nat) (q : List Str) (t : Tn), TkOk dsk t.behind → TkOk dsk (queueT ef n q t).2.behind
  | 0, q, t, m => m
  | n + 1, [], t, m => m
  | n + 1, ev :: q, t, m => queue_ok g n (q ++ (ef ev t.behind).events) (takeT t (ef ev t.behind)) (g ev _ m)
theorem begun_ok (hm : dsk.headD ("" : Str) ∈ dsk) {tk : Option Tk} {d : PyData} (h : DeedIs dsk d) (m : ∀ t, tk = some t → TkOk dsk t) : TkOk dsk (begunT dsk tk d).2 := by
  have m0 : TkOk dsk (tk.getD ⟨"new", dsk.headD ("" : Str), false, 0, false⟩) := by
    cases tk with
    | none => exact ⟨(by decide +kernel : ("new" : Str) ∈ statusesS), hm⟩
    | some t => exact m t rfl
  unfold begunT
  generalize tk.getD ⟨"new", dsk.headD ("" : Str), false, 0, false⟩ = t at m0 ⊢
  cases h with
  | letter => exact m0
  | answer => exact m0
  | day => exact m0
  | hand z h => exact ⟨m0.1, h⟩
  | set z h => exact ⟨h, m0.2⟩
theorem turns_ok {ef : Str → Tk → Ef} (g : ∀ ev t, TkOk dsk t → TkOk dsk (ef ev t).tk) (hm : dsk.headD ("" : Str) ∈ dsk) : ∀ (ds : List PyData) (tk : Option Tk), (∀ d ∈ ds, DeedIs dsk d) → (∀ t, tk = some t → TkOk dsk t) → ∀ t ∈ turnsT ef dsk tk ds, TkOk dsk t.behind
  | [], _, _, _ => fun _ m => nomatch m
  | d :: r, tk, h, m => by
    have x : TkOk dsk (turnT ef dsk tk d).behind := queue_ok g 50 _ (tnNew _ _) (begun_ok hm (h d List.mem_cons_self) m)
    intro t k
    rcases List.mem_cons.mp k with rfl | k
    · exact x
    · exact turns_ok g hm r _ (fun b k => h b (List.mem_cons_of_mem _ k)) (fun t e => by injection e with e; subst e; exact x) t k
theorem head_mem (l : 1 ≤ dsk.length) : dsk.headD ("" : Str) ∈ dsk := by
  cases dsk with
  | nil => simp at l
  | cons a r => exact List.mem_cons_self
theorem rep_lay {t : Tn} (lo : lowOk dsk) (m : TkOk dsk t.behind) : layD 2 (reportD t) := by
  intro e k
  simp only [List.mem_cons, List.not_mem_nil, or_false] at k
  rcases k with rfl | rfl | rfl | rfl
  · intro x hx
    obtain ⟨i, _, rfl⟩ := List.mem_map.mp hx
    trivial
  · trivial
  · intro x hx
    simp only [List.mem_cons, List.not_mem_nil, or_false] at hx
    rcases hx with rfl | rfl | rfl | rfl | rfl
    · exact statuses_ok _ m.1
    · exact lo _ m.2
    · trivial
    · trivial
    · trivial
  · trivial
theorem turns_lay {rs ds : List PyData} (lo : lowOk dsk) (l : 1 ≤ dsk.length) (h : ∀ e ∈ rs, isRuleD dsk e = true) (al : ∀ d ∈ ds, DeedIs dsk d) : ∀ t ∈ turnsT (effT rs) dsk none ds, layD 2 (reportD t) := fun t m =>
  rep_lay lo (turns_ok (fun ev t => eff_ok h ev) (head_mem l) ds none al (fun _ e => nomatch e) t m)
theorem reps_lay {ts : List Tn} (h : ∀ t ∈ ts, layD 2 (reportD t)) : layD 3 (.list (ts.map reportD)) := fun e k => by
  obtain ⟨t, m, rfl⟩ := List.mem_map.mp k
  exact h t m
theorem kinds_low (t : Tn) : ∀ k ∈ kindsT t, PyData.strOk k = true := by
  have one : ∀ (b : Bool) (z : Str), PyData.strOk z = true → ∀ k ∈ oneIf b z, PyData.strOk k = true := fun b z hz k m => by
    unfold oneIf at m
    split at m
    · rw [List.mem_singleton.mp m]; exact hz
    · cases m
  intro k m
  unfold kindsT at m
  rcases List.mem_append.mp m with m | m
  · rcases List.mem_append.mp m with m | m
    · rcases List.mem_append.mp m with m | m
      · exact one _ _ (by decide +kernel) k m
      · exact one _ _ (by decide +kernel) k m
    · exact one _ _ (by decide +kernel) k m
  · exact one _ _ (by decide +kernel) k m
theorem turns_low {ef : Str → Tk → Ef} : ∀ (ds : List PyData) (tk : Option Tk), ∀ t ∈ turnsT ef dsk tk ds, ∀ k ∈ t.kinds, PyData.strOk k = true
  | [], _ => fun _ m => nomatch m
  | d :: r, tk => fun t m => by
    rcases List.mem_cons.mp m with rfl | m
    · exact kinds_low _
    · exact turns_low r _ t m
theorem faults_low : ∀ (ts : List Tn) (i : Nat), (∀ t ∈ ts, ∀ k ∈ t.kinds, PyData.strOk k = true) → ∀ p ∈ faultsOf i ts, PyData.strOk p.1 = true
  | [], _, _ => fun _ m => nomatch m
  | t :: r, i, h => fun p m => by
    rcases List.mem_append.mp m with m | m
    · obtain ⟨k, hk, rfl⟩ := List.mem_map.mp m
      exact h t List.mem_cons_self k hk
    · exact faults_low r (i + 1) (fun u z => h u (List.mem_cons_of_mem _ z)) p m
theorem faults_lay {ps : List (Str × Nat)} (h : ∀ p ∈ ps, PyData.strOk p.1 = true) : layD 2 (.list (ps.map faultD)) := fun e k => by
  obtain ⟨p, m, rfl⟩ := List.mem_map.mp k
  intro x hx
  simp only [List.mem_cons, List.not_mem_nil, or_false] at hx
  rcases hx with rfl | rfl
  · exact h p m
  · trivial
end
/-! ### data held against each other -/
section
variable {K : PySem.W.Frag} {H : Hp} {Q : VK} {v w : V} {d : PyData} {n : Nat}
theorem eq_same {a : Addr} (h : Dp K H (.ref a) d) (g : Dp K H w d) (l : layD n d) (hn : n ≤ 64) (q : Q (.bl true) H) : rEqU K (.ref a) w H Q := by
  rw [rEqU_r]
  exact ⟨d, d, h, g, l.shaped hn, l.shaped hn, by rw [l.refl]; exact q⟩
theorem ne_same {a : Addr} (h : Dp K H (.ref a) d) (g : Dp K H w d) (l : layD n d) (hn : n ≤ 64) (q : Q (.bl false) H) : rNeU K (.ref a) w H Q := by
  rw [rNeU_r]
  exact ⟨d, d, h, g, l.shaped hn, l.shaped hn, by rw [l.refl]; exact q⟩
theorem sl_to {l : Addr} {xs : List V} {k : Nat} (h : SqL K H l xs) (hk : k ≤ xs.length) (q : ∀ p H', Same H H' → H p = none → H' p = some (.lst (xs.take k)) → Q (.ref p) H') : rSlU K (.ref l) none (some (k : Int)) H Q :=
  .inl ⟨l, xs, rfl, h, fun p np => by
    have e : cutV xs none (some (k : Int)) = xs.take k := by
      unfold cutV
      rw [HT.sIx_none, HT.sIx_nat, Nat.min_eq_left hk]
      simp
    rw [e]
    exact q p _ (Same.put (Same.refl H) np) np upd_same⟩
theorem sl_from {l : Addr} {xs : List V} {k : Nat} (h : SqL K H l xs) (hk : k ≤ xs.length) (q : ∀ p H', Same H H' → H p = none → H' p = some (.lst (xs.drop k)) → Q (.ref p) H') : rSlU K (.ref l) (some (k : Int)) none H Q :=
  .inl ⟨l, xs, rfl, h, fun p np => by
    have e : cutV xs (some (k : Int)) none = xs.drop k := by
      unfold cutV
      rw [HT.sIx_none, HT.sIx_nat, Nat.min_eq_left hk]
      rw [List.take_of_length_le (by simp)]
    rw [e]
    exact q p _ (Same.put (Same.refl H) np) np upd_same⟩
theorem len_dl {ds : List PyData} (h : Dp K H v (.list ds)) (q : Q (.int ds.length) H) : rLenU K [v] H Q := by
  obtain ⟨a, xs, rfl, sx, dx⟩ := dp_lst h
  exact len_l sx (by rw [dps_len dx]; exact q)
/-- a beginning of a list, by data -/
theorem cut_dl {ds : List PyData} {k : Nat} (h : Dp K H v (.list ds)) (hk : k ≤ ds.length) (q : ∀ p H', Same H H' → H p = none → Dp K H' (.ref p) (.list (ds.take k)) → Q (.ref p) H') : rSlU K v none (some (k : Int)) H Q := by
  obtain ⟨a, xs, rfl, sx, dx⟩ := dp_lst h
  have l := dps_len dx
  exact sl_to sx (by omega) fun p H' s np ep => q p H' s np (.lst (.inl (.inl ep)) (dpsSame s (dps_take k dx)))
theorem eq_dl {ds : List PyData} (h : Dp K H v (.list ds)) (g : Dp K H w (.list ds)) (l : layD n (.list ds)) (hn : n ≤ 64) (q : Q (.bl true) H) : rEqU K v w H Q := by
  obtain ⟨a, xs, rfl, _, _⟩ := dp_lst h
  exact eq_same h g l hn q
theorem ne_dl {ds : List PyData} (h : Dp K H v (.list ds)) (g : Dp K H w (.list ds)) (l : layD n (.list ds)) (hn : n ≤ 64) (q : Q (.bl false) H) : rNeU K v w H Q := by
  obtain ⟨a, xs, rfl, _, _⟩ := dp_lst h
  exact ne_same h g l hn q
theorem dps_filter (p : PyData → Bool) : ∀ {xs : List V} {ds : List PyData}, DpAll K H xs ds → DpAll K H (((xs.zip ds).filter fun q => p q.2).map fun q => q.1) (ds.filter p)
  | _, _, .nil => .nil
  | _, _, .cons (v := x) (d := d) h t => by
    have ih := dps_filter p t
    rw [List.zip_cons_cons]
    by_cases c : p d = true
    · rw [List.filter_cons_of_pos (by exact c), List.filter_cons_of_pos c]
      exact .cons h ih
    · rw [List.filter_cons_of_neg (by exact c), List.filter_cons_of_neg c]
      exact ih
theorem dlL_same {H' : Hp} {a : Addr} {xs : List V} (s : Same H H') (h : SqL K H a xs) : SqL K H' a xs := by
  rcases h with (h | ⟨o, h⟩) | h
  · exact .inl (.inl (s _ _ h))
  · exact .inl (.inr ⟨o, s _ _ h⟩)
  · exact .inr h
/-- those of a list that pass a test, by data -/
theorem lcFil {σ : L2.St} {g : TG} {tt : TT} {te : TE} {vs : List Nat} {ds : List PyData} (hv : Dp K H v (.list ds)) (few : ds.length < sizeLine) (p : PyData → Bool)
    (step : ∀ (i : Nat) (x : V) (d : PyData) (H' : Hp) (N : Bool → V → Hp → Prop), ds[i]? = some d → Same H H' → Dp K H' x d → (∀ H4, Same H' H4 → p d = false → N false .non H4) → (∀ H4, Same H' H4 → p d = true → N true x H4) →
      g x (wipe σ vs) H' fun σ2 H2 => wipe σ2 vs = wipe σ vs ∧ tt σ2 H2 fun b H3 => if b = true then te σ2 H3 fun y H4 => N true y H4 else N false .non H3)
    (hd : ∀ D H', H D = none → Same H H' → Dp K H' (.ref D) (.list (ds.filter p)) → Q (.ref D) H') : LcSeqL K g tt te vs σ Q v H := by
  obtain ⟨a, xs, rfl, sx, dx⟩ := dp_lst hv
  have l := dps_len dx
  refine lcLf (xs := xs) (fun H' s => dlL_same s sx) (by omega) (fun i => ((((xs.zip ds).take i).filter fun q => p q.2).map fun q => q.1)) rfl (fun i => by
    rw [List.length_map]
    refine Nat.le_trans (List.length_filter_le _ _) ?_
    rw [List.length_take]
    omega) ?_ ?_
  · intro i x H' N hx s nf nt
    obtain ⟨d, hd', hx'⟩ := dps_get dx hx
    have ez : (xs.zip ds)[i]? = some (x, d) := by
      rw [List.getElem?_zip_eq_some]
      exact ⟨hx, hd'⟩
    have more : ((((xs.zip ds).take (i + 1)).filter fun q => p q.2).map fun q => q.1) = ((((xs.zip ds).take i).filter fun q => p q.2).map fun q => q.1) ++ (if p d = true then [x] else []) := by
      rw [List.take_succ, ez, List.filter_append, List.map_append]
      congr 1
      by_cases c : p d = true
      · simp [c]
      · simp [c]
    refine step i x d H' N hd' s (dpSame s hx') (fun H4 s4 e => nf H4 s4 ?_) fun H4 s4 e => nt x H4 s4 ?_
    · rw [more, if_neg (by rw [e]; decide), List.append_nil]
    · rw [more, if_pos e]
  · intro D H' nD s e
    have e0 : (xs.zip ds).take xs.length = xs.zip ds := List.take_of_length_le (by rw [List.length_zip]; omega)
    rw [e0] at e
    exact hd D H' nD s (.lst (.inl (.inl e)) (dpsSame s (dps_filter p dx)))
/-- the same of a tuple -/
theorem lcFilT {σ : L2.St} {g : TG} {tt : TT} {te : TE} {vs : List Nat} {ds : List PyData} (hv : Dp K H v (.tuple ds)) (few : ds.length < sizeLine) (p : PyData → Bool)
    (step : ∀ (i : Nat) (x : V) (d : PyData) (H' : Hp) (N : Bool → V → Hp → Prop), ds[i]? = some d → Same H H' → Dp K H' x d → (∀ H4, Same H' H4 → p d = false → N false .non H4) → (∀ H4, Same H' H4 → p d = true → N true x H4) →
      g x (wipe σ vs) H' fun σ2 H2 => wipe σ2 vs = wipe σ vs ∧ tt σ2 H2 fun b H3 => if b = true then te σ2 H3 fun y H4 => N true y H4 else N false .non H3)
    (hd : ∀ D H', H D = none → Same H H' → Dp K H' (.ref D) (.list (ds.filter p)) → Q (.ref D) H') : LcSeqT K g tt te vs σ Q v H := by
  obtain ⟨a, xs, rfl, sx, dx⟩ := dp_tup hv
  have l := dps_len dx
  refine lcTf (xs := xs) (fun H' s => same_seqT s sx) (by omega) (fun i => ((((xs.zip ds).take i).filter fun q => p q.2).map fun q => q.1)) rfl (fun i => by
    rw [List.length_map]
    refine Nat.le_trans (List.length_filter_le _ _) ?_
    rw [List.length_take]
    omega) ?_ ?_
  · intro i x H' N hx s nf nt
    obtain ⟨d, hd', hx'⟩ := dps_get dx hx
    have ez : (xs.zip ds)[i]? = some (x, d) := by
      rw [List.getElem?_zip_eq_some]
      exact ⟨hx, hd'⟩
    have more : ((((xs.zip ds).take (i + 1)).filter fun q => p q.2).map fun q => q.1) = ((((xs.zip ds).take i).filter fun q => p q.2).map fun q => q.1) ++ (if p d = true then [x] else []) := by
      rw [List.take_succ, ez, List.filter_append, List.map_append]
      congr 1
      by_cases c : p d = true
      · simp [c]
      · simp [c]
    refine step i x d H' N hd' s (dpSame s hx') (fun H4 s4 e => nf H4 s4 ?_) fun H4 s4 e => nt x H4 s4 ?_
    · rw [more, if_neg (by rw [e]; decide), List.append_nil]
    · rw [more, if_pos e]
  · intro D H' nD s e
    have e0 : (xs.zip ds).take xs.length = xs.zip ds := List.take_of_length_le (by rw [List.length_zip]; omega)
    rw [e0] at e
    exact hd D H' nD s (.lst (.inl (.inl e)) (dpsSame s (dps_filter p dx)))
/-- a list held against none -/
theorem eq_nil {ds : List PyData} (h : Dp K H v (.list ds)) (g : Dp K H w (.list [])) (l : layD n (.list ds)) (hn : n ≤ 64) (q : Q (.bl ds.isEmpty) H) : rEqU K v w H Q := by
  obtain ⟨a, xs, rfl, _, _⟩ := dp_lst h
  rw [rEqU_r]
  refine ⟨_, _, h, g, l.shaped hn, layD.shaped (n := 1) (fun _ m => nomatch m) (by decide), ?_⟩
  have e : PyData.eqv (.list ds) (.list []) = ds.isEmpty := by cases ds <;> simp [PyData.eqv, PyData.eqvAll]
  rw [e]
  exact q
theorem in_strs {z : Str} {ws : List Str} {p : Addr} (h : SqL K H p (ws.map V.str) ∨ SqT K H p (ws.map V.str)) (q : Q (.bl (decide (z ∈ ws))) H) : rInU K (.str z) (.ref p) H Q := by
  refine .inl ⟨p, _, rfl, h, rfl, flat_all _, ?_⟩
  have e : (ws.any fun x => x == z) = decide (z ∈ ws) := by
    rw [Bool.eq_iff_iff, List.any_eq_true, decide_eq_true_eq]
    exact ⟨fun ⟨x, h1, h2⟩ => by rw [← beq_iff_eq.mp h2]; exact h1, fun h => ⟨z, h, by simp⟩⟩
  rw [if_neg Bool.false_ne_true, inV_strs, e]
  exact q
/-- no list and no dictionary -/
def Hard : HO → Prop
  | .lst _ => False
  | .dK _ => False
  | _ => True
/-- all that is no list and no dictionary stands -/
def NLs (H H' : Hp) : Prop := ∀ b o, H b = some o → Hard o → H' b = some o
theorem NLs.refl (H : Hp) : NLs H H := fun _ _ e _ => e
theorem NLs.trans {H H1 H2 : Hp} (a : NLs H H1) (b : NLs H1 H2) : NLs H H2 := fun c o e n => b c o (a c o e n) n
theorem NLs.of {H H' : Hp} (s : Same H H') : NLs H H' := fun b o e _ => s b o e
theorem NLs.put {H : Hp} {l : Addr} {xs ys : List V} (e : H l = some (.lst xs)) : NLs H (upd H l (.lst ys)) := fun b o e2 nl => by
  rw [upd_ne fun c => by
    rw [c, e] at e2
    cases e2
    exact nl]
  exact e2
theorem NLs.putD {H : Hp} {l : Addr} {o2 : HO} {xs : List (Key × V)} (e : H l = some (.dK xs)) : NLs H (upd H l o2) := fun b o e2 nl => by
  rw [upd_ne fun c => by
    rw [c, e] at e2
    cases e2
    exact nl]
  exact e2
theorem sqT_nls {H H' : Hp} {a : Addr} {xs : List V} (h : SqT K H a xs) (k : NLs H H') : SqT K H' a xs := by
  rcases h with (h | ⟨o, h⟩) | h
  · exact .inl (.inl (k _ _ h trivial))
  · exact .inl (.inr ⟨o, k _ _ h trivial⟩)
  · exact .inr h
theorem dp_nls {H H' : Hp} (k : NLs H H') : ∀ (n : Nat) {v : V} {d : PyData}, tpD n d → Dp K H v d → Dp K H' v d
  | 0, _, _, t, h => dp_leaf t h
  | n + 1, v, .tuple ds, t, h => by
    obtain ⟨a, xs, rfl, s, dx⟩ := dp_tup h
    exact .tup (sqT_nls s k) (dps_map dx fun v d m h => dp_nls k n (t d m) h)
  | n + 1, v, .list ds, t, h => dp_leaf t h
  | n + 1, v, .none, t, h => dp_leaf t h
  | n + 1, v, .bool _, t, h => dp_leaf t h
  | n + 1, v, .int _, t, h => dp_leaf t h
  | n + 1, v, .str _, t, h => dp_leaf t h
  | n + 1, v, .dict _, t, h => dp_leaf t h
theorem lcMapT {σ : L2.St} {g : TG} {te : TE} {vs : List Nat} {ds : List PyData} (m : Nat) (F : PyData → PyData) (hv : Dp K H v (.tuple ds)) (few : ds.length < sizeLine) (tp : ∀ d ∈ ds, tpD m (F d))
    (step : ∀ (i : Nat) (x : V) (d : PyData) (H' : Hp) (N : VK), ds[i]? = some d → Same H H' → Dp K H' x d → (∀ y H4, Same H' H4 → Dp K H4 y (F d) → N y H4) → g x (wipe σ vs) H' fun σ2 H2 => wipe σ2 vs = wipe σ vs ∧ te σ2 H2 N)
    (hd : ∀ D H' ys, H D = none → Same H H' → H' D = some (.lst ys) → DpAll K H' ys (ds.map F) → Q (.ref D) H') : LcSeqT K g tYes te vs σ Q v H := by
  obtain ⟨a, xs, rfl, sx, dx⟩ := dp_tup hv
  have l := dps_len dx
  refine ⟨a, rfl, ⟨xs, sx⟩, ?_⟩
  refine lcAnyIn walk_tup (fun D i H' => Same H H' ∧ ∃ ys, H' D = some (.lst ys) ∧ ys.length = i ∧ DpAll K H' ys ((ds.take i).map F)) (fun D nD => ⟨Same.put (Same.refl H) nD, [], upd_same, rfl, .nil⟩) (fun D i H' _ q => same_seqT q.1 sx) ?_ ?_
  · rintro D nD i x H0 H1 hi ⟨k1, ys, e1, ly, dy⟩ y
    obtain ⟨rfl, hx⟩ := y
    obtain ⟨d, hd', hx'⟩ := dps_get dx hx
    have md := List.mem_of_getElem? hd'
    unfold lcTurn
    refine step i x d H1 _ hd' k1 (dpSame k1 hx') fun y H4 s4 d4 => ?_
    have e4 := s4 _ _ e1
    have k5 : NLs H4 (upd H4 D (.lst (ys ++ [y]))) := NLs.put e4
    refine ⟨ys, e4, by omega, fun b o e => ?_, ys ++ [y], upd_same, by rw [List.length_append, List.length_singleton, ly], ?_⟩
    · rw [upd_ne (ne_of_none e nD)]
      exact s4 _ _ (k1 _ _ e)
    · rw [List.take_succ, hd', List.map_append]
      refine dps_append (dps_map (dpsSame s4 dy) fun v d k h => dp_nls k5 m ?_ h) (.cons (dp_nls k5 m (tp d md) d4) .nil)
      obtain ⟨d0, m0, rfl⟩ := List.mem_map.mp k
      exact tp d0 (List.mem_of_mem_take m0)
  · rintro D nD H' ⟨k, ys, e, ly, dy⟩
    rw [l, List.take_length] at dy
    exact hd D H' ys nD k e dy
theorem lcMapL {σ : L2.St} {g : TG} {te : TE} {vs : List Nat} {ds : List PyData} (m : Nat) (F : PyData → PyData) (hv : Dp K H v (.list ds)) (few : ds.length < sizeLine) (tp : ∀ d ∈ ds, tpD m (F d))
    (step : ∀ (i : Nat) (x : V) (d : PyData) (H' : Hp) (N : VK), ds[i]? = some d → Same H H' → Dp K H' x d → (∀ y H4, Same H' H4 → Dp K H4 y (F d) → N y H4) → g x (wipe σ vs) H' fun σ2 H2 => wipe σ2 vs = wipe σ vs ∧ te σ2 H2 N)
    (hd : ∀ D H' ys, H D = none → Same H H' → H' D = some (.lst ys) → DpAll K H' ys (ds.map F) → Q (.ref D) H') : LcSeqL K g tYes te vs σ Q v H := by
  obtain ⟨a, xs, rfl, sx, dx⟩ := dp_lst hv
  have l := dps_len dx
  refine ⟨a, rfl, ⟨xs, sx⟩, ?_⟩
  refine lcAnyIn walk_list (fun D i H' => Same H H' ∧ ∃ ys, H' D = some (.lst ys) ∧ ys.length = i ∧ DpAll K H' ys ((ds.take i).map F)) (fun D nD => ⟨Same.put (Same.refl H) nD, [], upd_same, rfl, .nil⟩) (fun D i H' _ q => dlL_same q.1 sx) ?_ ?_
  · rintro D nD i x H0 H1 hi ⟨k1, ys, e1, ly, dy⟩ y
    obtain ⟨rfl, hx⟩ := y
    obtain ⟨d, hd', hx'⟩ := dps_get dx hx
    have md := List.mem_of_getElem? hd'
    unfold lcTurn
    refine step i x d H1 _ hd' k1 (dpSame k1 hx') fun y H4 s4 d4 => ?_
    have e4 := s4 _ _ e1
    have k5 : NLs H4 (upd H4 D (.lst (ys ++ [y]))) := NLs.put e4
    refine ⟨ys, e4, by omega, fun b o e => ?_, ys ++ [y], upd_same, by rw [List.length_append, List.length_singleton, ly], ?_⟩
    · rw [upd_ne (ne_of_none e nD)]
      exact s4 _ _ (k1 _ _ e)
    · rw [List.take_succ, hd', List.map_append]
      refine dps_append (dps_map (dpsSame s4 dy) fun v d k h => dp_nls k5 m ?_ h) (.cons (dp_nls k5 m (tp d md) d4) .nil)
      obtain ⟨d0, m0, rfl⟩ := List.mem_map.mp k
      exact tp d0 (List.mem_of_mem_take m0)
  · rintro D nD H' ⟨k, ys, e, ly, dy⟩
    rw [l, List.take_length] at dy
    exact hd D H' ys nD k e dy
/-- tuples of plain things stand -/
theorem fs_tp {H0 : Hp} (m : Nat) (t : tpD m d) (h : Dp K H v d) : Fs K H0 H v d := fun q H' z k => dp_ts (tps_of k fun b y => (z b y).2).t m t h
theorem fsAll_tp {H0 : Hp} (m : Nat) : ∀ {ys : List V} {ds : List PyData}, DpAll K H ys ds → (∀ d ∈ ds, tpD m d) → FsAll K H0 H ys ds
  | _, _, .nil, _ => .nil
  | _, _, .cons h t, g => .cons (fs_tp m (g _ List.mem_cons_self) h) (fsAll_tp m t fun d k => g d (List.mem_cons_of_mem _ k))
theorem dps_ints_eq : ∀ {ys : List V} {L : List Int}, DpAll K H ys (L.map PyData.int) → ys = L.map V.int
  | [], [], _ => rfl
  | _ :: _, [], h => nomatch h
  | [], _ :: _, h => nomatch h
  | y :: ys, k :: L, .cons h t => by
    cases dp_int h
    rw [dps_ints_eq t]
    rfl
/-- two tuples put together, neither of them empty -/
theorem cat_fs {H0 : Hp} {a b : Addr} {xs ys : List V} {r1 r2 : List PyData} (ha : H a = some (.tup xs)) (hb : SqT K H b ys) (n1 : xs ≠ []) (n2 : ys ≠ []) (fx : FsAll K H0 H xs r1) (fy : FsAll K H0 H ys r2) (l : xs.length + ys.length ≤ sizeLine)
    (q : ∀ p H', Same H H' → Fs K H0 H' (.ref p) (.tuple (r1 ++ r2)) → Q (.ref p) H') : rAddU K (.ref a) (.ref b) H Q := by
  refine .inr (.inr ⟨a, b, xs, ys, rfl, rfl, .inl (.inl ha), hb, l, fun e => absurd e n1, fun _ e => absurd e n2, fun _ _ p n => ?_⟩)
  have k : Same H (upd H p (.tup (xs ++ ys))) := Same.put (Same.refl H) n
  refine q p _ k (fs_tup upd_same ?_)
  have go : ∀ {as bs : List V} {ds es : List PyData}, FsAll K H0 (upd H p (.tup (xs ++ ys))) as ds → FsAll K H0 (upd H p (.tup (xs ++ ys))) bs es → FsAll K H0 (upd H p (.tup (xs ++ ys))) (as ++ bs) (ds ++ es) := fun {as bs ds es} h g => by
    induction h with
    | nil => exact g
    | cons h _ ih => exact .cons h ih
  exact go (fx.mono fun _ _ z => z.same k) (fy.mono fun _ _ z => z.same k)
theorem sl_take {l : Addr} {xs : List V} {k : Nat} (h : SqL K H l xs) (q : ∀ p H', Same H H' → H p = none → H' p = some (.lst (xs.take k)) → Q (.ref p) H') : rSlU K (.ref l) none (some (k : Int)) H Q :=
  .inl ⟨l, xs, rfl, h, fun p np => by
    have e : cutV xs none (some (k : Int)) = xs.take k := by
      unfold cutV
      rw [HT.sIx_none, HT.sIx_nat]
      by_cases c : k ≤ xs.length
      · rw [Nat.min_eq_left c]
        simp
      · rw [Nat.min_eq_right (by omega), List.take_of_length_le (show xs.length ≤ k by omega)]
        simp
    rw [e]
    exact q p _ (Same.put (Same.refl H) np) np upd_same⟩
theorem dps_intsU {H : Hp} : ∀ ns : List Int, DpAll K H (ns.map V.int) (ns.map PyData.int)
  | [] => .nil
  | n :: r => .cons (.int n) (dps_intsU r)
end
end Ld

set_option Elab.async false
set_option linter.all false
set_option maxRecDepth 100000
set_option maxHeartbeats 4000000
/-! A book and a history, while pots are drawn from. -/
namespace Ld
open PySem PySem.Spec PyProof.Rows L2
local macro_rules | `(tactic| walk_at "rd") => `(tactic| try simp only [tSeq, tNext, tRet, tRetN, tIfS, tTest, tB, tAnd, tOr, tNot, tAndV, tOrV, tNotV, tOp, tUn, tC, tVar, tCons, tNil, tCall, tCB, tAsg, tDrop, tChain, tIf, tYes, tBreak, tCont, tNever, tFld, sFld, sFldAug, tMeth, tMake, tRaiseF, tMkF, tM1, tOwn2S, tOwnIxS, tXf, tRevL, tMethS, tTup, tLst, tSl, tPart, tNoPart, tPar, tBM, tBM0, tLenSetT, tAug, gName, gTup, gCons, gNil, gStar2, gFld, gSub, rI0, rI, rU, rIxU, rIxS, rIn, rInU, rAddU, rSlU, rLenU, rTupU, rListU, rRep, rEqU_ss, rEqU_ii, rEqU_bb, rEqU_r, rNeU_ss, rNeU_ii, rNeU_bb, rNeU_r, cxOf, L2.start, wipe, List.map_cons, List.map_nil, List.length_cons, List.length_nil, List.replicate, List.cons_append, List.nil_append, List.append_nil, Nat.reduceSub, Nat.reduceAdd, List.getElem?_cons_zero, List.getElem?_cons_succ, List.set_cons_zero, List.set_cons_succ, Option.some.injEq, exists_eq_left', exists_eq_left, exists_eq, exists_and_left, V.bl.injEq, V.int.injEq, V.str.injEq, V.ref.injEq, V.ty.injEq, reduceCtorEq, false_and, and_false, exists_false, false_or, or_false, true_and, and_true, if_true, if_false, Bool.false_eq_true, ite_true, ite_false, reduceIte, decide_true, decide_false, Bool.not_true, Bool.not_false, Bool.not_eq_true, Bool.true_and, Bool.false_and, Bool.and_true, Bool.and_false, List.cons.injEq, and_assoc])
local macro_rules | `(tactic| walk_at "rn") => `(tactic| try simp only [tSeq, tNext, tRet, tRetN, tIfS, tTest, tB, tAnd, tOr, tNot, tAndV, tOrV, tNotV, tOp, tUn, tC, tVar, tCons, tNil, tCall, tCB, tAsg, tDrop, tChain, tIf, tYes, tBreak, tCont, tNever, tFld, sFld, sFldAug, tMeth, tMake, tRaiseF, tMkF, tM1, tOwn2S, tOwnIxS, tXf, tRevL, tMethS, tCallS, tMethK1, tDNewK, tRevT, Ends.cut, tDGet, rNotN, tNGet, sNPut, tNNew, tTup, tLst, tSl, tPart, tNoPart, tPar, tBM, tBM0, tLenSetT, tAug, gName, gTup, gCons, gNil, gStar2, gFld, gSub, rI0, rI, rU, rAddU_ii, tFor_rng, tLc_rng, rRep, rEqU_ss, rEqU_ii, rEqU_bb, rEqU_r, rNeU_ss, rNeU_ii, rNeU_bb, rNeU_r, cxOf, L2.start, wipe, List.map_cons, List.map_nil, List.length_cons, List.length_nil, List.replicate, List.cons_append, List.nil_append, List.append_nil, Nat.reduceSub, Nat.reduceAdd, List.getElem?_cons_zero, List.getElem?_cons_succ, List.set_cons_zero, List.set_cons_succ, Option.some.injEq, exists_eq_left', exists_eq_left, exists_eq, exists_and_left, V.bl.injEq, V.int.injEq, V.str.injEq, V.ref.injEq, V.ty.injEq, reduceCtorEq, false_and, and_false, exists_false, false_or, or_false, true_and, and_true, if_true, if_false, Bool.false_eq_true, ite_true, ite_false, reduceIte, decide_true, decide_false, Bool.not_true, Bool.not_false, Bool.not_eq_true, Bool.true_and, Bool.false_and, Bool.and_true, Bool.and_false, List.cons.injEq, and_assoc])
local macro_rules | `(tactic| walk_at "lay") => `(tactic| (apply lay_new; intro l h qq s n e; rw [← qq]; clear qq))
section
variable {P : Program} {w : World} {K : PySem.W.Frag} {mg : Str → Option Value} {base : Heap} {Z : Ad}
theorem NLs.grS {H H' : Hp} {ps : List Addr} {n : Nat} (pt : PotsAt H ps n) (g : GrS ps H H') : NLs H H' := fun b o e nl => g.keep b o (fun m => by
  obtain ⟨x, y, z, e2, _⟩ := pt.at_ b m
  rw [e2] at e
  cases e
  exact nl) e
theorem BookIs.nls {C : Addr} {H H' : Hp} {b : V} {dsk : List Str} {rs : List PyData} (h : BookIs K C H b dsk rs) (k : NLs H H') : BookIs K C H' b dsk rs := by
  obtain ⟨a, dx, vd, vr, e, ha, hd, hr, gb⟩ := h
  exact ⟨a, dx, vd, vr, e, k _ _ ha trivial, dp_nls k 1 (fun x m => by obtain ⟨z, _, rfl⟩ := List.mem_map.mp m; rfl) hd, dp_nls k 4 (rules_tpR (firstBad_none dsk rs 0 gb.2).2) hr, gb⟩
theorem deeds_nls {H H' : Hp} (k : NLs H H') {dsk : List Str} {vs : List V} {ds : List PyData} (h : DpAll K H vs ds) (al : ∀ d ∈ ds, DeedIs dsk d) : DpAll K H' vs ds := dps_map h fun v d m h => dp_nls k 1 (al d m).tp h
theorem fs_pots {H H1 H2 : Hp} {v : V} {d : PyData} {ps : List Addr} {n m : Nat} (h : Fs K H H1 v d) (p0 : PotsAt H ps n) (p1 : PotsAt H1 ps m) (g : GrS ps H1 H2) : Fs K H H2 v d := h.later g.keep fun b z => ⟨(p0.at_ b z).ne, by
  obtain ⟨x, y, c, e, _⟩ := p1.at_ b z
  exact .inr (.inl ⟨_, e⟩)⟩
theorem GrS.put {ps : List Addr} {H H' : Hp} {r : Addr} {o : HO} (g : GrS ps H H') (n : H r = none) : GrS ps H (upd H' r o) := ⟨fun b o nb e => by
  rw [upd_ne (ne_of_none e n)]
  exact g.keep b o nb e, fun b z => by
  by_cases c : b = r
  · rw [c, upd_same]; exact nofun
  · rw [upd_ne c]; exact g.ne b z⟩
theorem none_of {ps : List Addr} {H H' : Hp} {r : Addr} (g : GrS ps H H') (n : H' r = none) : H r = none := by
  cases e : H r with
  | none => rfl
  | some o => exact absurd n (g.ne r (by rw [e]; exact nofun))
structure Stg (K : PySem.W.Frag) (Z : Ad) (H : Hp) (lp : Addr) (ps : List Addr) (n : Nat) (x da la : Addr) (dsk : List Str) (rs ds : List PyData) : Prop where
  pots : PotsAt H ps n
  elp : H lp = some (.lst (ps.map V.ref))
  nlp : lp ∉ ps
  l1 : 1 ≤ ps.length
  l63 : ps.length ≤ 63
  bk : BookIs K Z.Book H (.ref x) dsk rs
  sd : SqT K H da (dsk.map V.str)
  d1 : 1 ≤ dsk.length
  d4 : dsk.length ≤ 4
  acts : ∃ vs, H la = some (.lst vs) ∧ DpAll K H vs ds
  nla : la ∉ ps
  deeds : ∀ d ∈ ds, isDeedD dsk d = true
  head : headW ds = true
  few : ds.length ≤ 1000
theorem Stg.go {H H' : Hp} {lp : Addr} {ps : List Addr} {n m : Nat} {x da la : Addr} {dsk : List Str} {rs ds : List PyData} (S : Stg K Z H lp ps n x da la dsk rs ds) (k : NLs H H') (p : PotsAt H' ps m) (e1 : ∀ o, H lp = some o → H' lp = some o) (e2 : ∀ o, H la = some o → H' la = some o) : Stg K Z H' lp ps m x da la dsk rs ds :=
  ⟨p, e1 _ S.elp, S.nlp, S.l1, S.l63, S.bk.nls k, sqT_nls S.sd k, S.d1, S.d4, by obtain ⟨vs, a, b⟩ := S.acts; exact ⟨vs, e2 _ a, deeds_nls k b fun d m => deed_of (S.deeds d m)⟩, S.nla, S.deeds, S.head, S.few⟩
theorem Stg.same {H H' : Hp} {lp : Addr} {ps : List Addr} {n : Nat} {x da la : Addr} {dsk : List Str} {rs ds : List PyData} (S : Stg K Z H lp ps n x da la dsk rs ds) (s : Same H H') : Stg K Z H' lp ps n x da la dsk rs ds :=
  S.go (NLs.of s) (S.pots.same s) (fun o e => s _ _ e) fun o e => s _ _ e
theorem Stg.gr {H H' : Hp} {lp : Addr} {ps : List Addr} {n m : Nat} {x da la : Addr} {dsk : List Str} {rs ds : List PyData} (S : Stg K Z H lp ps n x da la dsk rs ds) (g : GrS ps H H') (p : PotsAt H' ps m) : Stg K Z H' lp ps m x da la dsk rs ds :=
  S.go (NLs.grS S.pots g) p (fun o e => g.keep _ _ S.nlp e) fun o e => g.keep _ _ S.nla e
theorem Stg.put {H : Hp} {lp : Addr} {ps : List Addr} {n : Nat} {x da la l : Addr} {xs ys : List V} {dsk : List Str} {rs ds : List PyData} (S : Stg K Z H lp ps n x da la dsk rs ds) (e : H l = some (.lst xs)) (n1 : l ≠ lp) (n2 : l ≠ la) (n3 : l ∉ ps) : Stg K Z (upd H l (.lst ys)) lp ps n x da la dsk rs ds :=
  S.go (NLs.put e) ⟨S.pots.nd, fun p m => by
    obtain ⟨a, b, c, e2, r⟩ := S.pots.at_ p m
    exact ⟨a, b, c, by rw [upd_ne fun z => n3 (by rw [← z]; exact m)]; exact e2, r⟩⟩ (fun o e => by rw [upd_ne (Ne.symm n1)]; exact e) fun o e => by rw [upd_ne (Ne.symm n2)]; exact e
/-- the pot at a place -/
theorem Stg.pot {H : Hp} {lp : Addr} {ps : List Addr} {n : Nat} {x da la : Addr} {dsk : List Str} {rs ds : List PyData} (S : Stg K Z H lp ps n x da la dsk rs ds) {p : Addr} {many : Int} {Q : VK} {E : XK} (m : p ∈ ps) (hn : n < 2 ^ 60) (m0 : 0 < many) (m1 : many < 2 ^ 200)
    (q : ∀ (r : Nat) H', (r : Int) < many → GrS ps H H' → Stg K Z H' lp ps (n + 1) x da la dsk rs ds → Q (.int (r : Nat)) H') : spDip [.ref p, .int many] H Q E :=
  ⟨p, many, n, rfl, S.pots.at_ _ m, hn, m0, m1, fun r H' r0 r1 g p1 => by
    obtain ⟨r, rfl⟩ := Int.eq_ofNat_of_zero_le r0
    exact q r H' r1 (GrS.one g m) (S.gr (GrS.one g m) (S.pots.gr g p1 (by omega)))⟩
theorem rIx_last {H : Hp} {Q : VK} {lp : Addr} {ps : List Addr} (e : H lp = some (.lst (ps.map V.ref))) (l : 1 ≤ ps.length) (q : ∀ p ∈ ps, Q (.ref p) H) : rIxU K (.ref lp) (.int (-1)) H Q := by
  rcases List.eq_nil_or_concat ps with rfl | ⟨i, p, rfl⟩
  · simp at l
  · exact ix_l (.inl (.inl e)) (by rw [List.concat_eq_append, List.map_append]; exact atI_last _ _) (q p (by simp))
theorem rIx_mod {H : Hp} {Q : VK} {lp : Addr} {ps : List Addr} {a : Nat} (e : H lp = some (.lst (ps.map V.ref))) (l : 1 ≤ ps.length) (q : ∀ p ∈ ps, Q (.ref p) H) : rIxU K (.ref lp) (.int ((a : Int) % ((ps.map V.ref).length : Int))) H Q := by
  have hj : a % ps.length < ps.length := Nat.mod_lt _ (by omega)
  have ej : ((a : Int) % ((ps.map V.ref).length : Int)) = ((a % ps.length : Nat) : Int) := by
    rw [List.length_map, Int.natCast_emod]
  rw [ej]
  exact ix_l (.inl (.inl e)) (atI_nat (by rw [List.getElem?_map, List.getElem?_eq_getElem hj]; rfl)) (q _ (List.getElem_mem hj))
theorem Stg.dp {H : Hp} {lp : Addr} {ps : List Addr} {n : Nat} {x da la : Addr} {dsk : List Str} {rs ds : List PyData} (S : Stg K Z H lp ps n x da la dsk rs ds) : Dp K H (.ref la) (.list ds) := by
  obtain ⟨vs, e, d⟩ := S.acts
  exact .lst (.inl (.inl e)) d
theorem Stg.dis {H : Hp} {lp : Addr} {ps : List Addr} {n : Nat} {x da la : Addr} {dsk : List Str} {rs ds : List PyData} (S : Stg K Z H lp ps n x da la dsk rs ds) : ∀ d ∈ ds, DeedIs dsk d := fun d m => deed_of (S.deeds d m)
theorem Stg.good {H : Hp} {lp : Addr} {ps : List Addr} {n : Nat} {x da la : Addr} {dsk : List Str} {rs ds : List PyData} (S : Stg K Z H lp ps n x da la dsk rs ds) : lowOk dsk ∧ ∀ e ∈ rs, isRuleD dsk e = true := by
  obtain ⟨_, _, _, _, _, _, _, _, g⟩ := S.bk
  exact ⟨good_low g, good_all g⟩
/-- reports and faults of a beginning -/
theorem play_take {rs ds : List PyData} {dsk : List Str} (k : Nat) : playT rs dsk (ds.take k) = (playT rs dsk ds).take k := by
  unfold playT
  rw [turnsT_take, List.map_take]
def befD (k : Nat) : PyData → Bool
  | .tuple [_, .int i] => decide (i < (k : Int))
  | _ => false
theorem wrong_take {rs ds : List PyData} {dsk : List Str} (k : Nat) : (wrongT rs dsk (ds.take k)).map faultD = ((wrongT rs dsk ds).map faultD).filter (befD k) := by
  unfold wrongT
  rw [turnsT_take, faultsOf_take, List.filter_map]
  congr 2
  funext p
  show decide (p.2 < 0 + k) = decide ((p.2 : Int) < (k : Int))
  congr 1
  rw [eq_iff_iff]
  omega
theorem Stg.layP {H : Hp} {lp : Addr} {ps : List Addr} {n : Nat} {x da la : Addr} {dsk : List Str} {rs ds es : List PyData} (S : Stg K Z H lp ps n x da la dsk rs ds) (al : ∀ d ∈ es, DeedIs dsk d) : layD 3 (.list (playT rs dsk es)) := reps_lay (turns_lay S.good.1 S.d1 S.good.2 al)
theorem faults_len : ∀ (ts : List Tn) (i : Nat), (∀ t ∈ ts, t.kinds.length ≤ 4) → (faultsOf i ts).length ≤ 4 * ts.length
  | [], _, _ => Nat.le_refl _
  | t :: r, i, h => by
    have a := h t List.mem_cons_self
    have b := faults_len r (i + 1) fun u m => h u (List.mem_cons_of_mem _ m)
    show (t.kinds.map _ ++ faultsOf (i + 1) r).length ≤ 4 * (r.length + 1)
    rw [List.length_append, List.length_map]
    omega
theorem wrong_len (rs ds : List PyData) (dsk : List Str) : ((wrongT rs dsk ds).map faultD).length ≤ 4 * ds.length := by
  have := faults_len (turnsT (effT rs) dsk none ds) 0 (turns_kinds _ _ _ _)
  rw [turnsT_len] at this
  rw [List.length_map]
  exact this
theorem Stg.layF {rs es : List PyData} {dsk : List Str} : layD 2 (.list ((wrongT rs dsk es).map faultD)) := faults_lay (faults_low _ 0 (turns_low es none))
theorem Stg.hist {H : Hp} {lp : Addr} {ps : List Addr} {n : Nat} {x da la : Addr} {dsk : List Str} {rs ds : List PyData} (S : Stg K Z H lp ps n x da la dsk rs ds) (k : Nat) : (ds.take k).length ≤ 1000 ∧ (∀ d ∈ ds.take k, isDeedD dsk d = true) ∧ (ds.take k = [] ∨ headW (ds.take k) = true) :=
  ⟨by have := S.few; rw [List.length_take]; omega, fun d m => S.deeds d (List.mem_of_mem_take m), head_take S.head k⟩
theorem GrS.sub {ps ps' : List Addr} {H H' : Hp} (g : GrS ps' H H') (h : ∀ p ∈ ps', p ∈ ps) : GrS ps H H' := ⟨fun b o nb e => g.keep b o (fun m => nb (h b m)) e, g.ne⟩
theorem PotsAt.sub {ps ps' : List Addr} {H H' : Hp} {n m : Nat} (pa : PotsAt H ps n) (g : GrS ps' H H') (pb : PotsAt H' ps' m) (l : n ≤ m) : PotsAt H' ps m := ⟨pa.nd, fun p mp => by
  by_cases c : p ∈ ps'
  · exact pb.at_ p c
  · obtain ⟨a, b, d, e, r⟩ := (pa.at_ p mp).mono l
    exact ⟨a, b, d, g.keep _ _ c e, r⟩⟩
theorem queue_acl {ef : Str → Tk → Ef} (g : ∀ ev t, (ef ev t).acted.length ≤ 8) : ∀ (n : Nat) (q : List Str) (t : Tn), (queueT ef n q t).2.acted.length ≤ t.acted.length + 8 * n
  | 0, q, t => Nat.le_refl _
  | n + 1, [], t => by show t.acted.length ≤ _; omega
  | n + 1, ev :: q, t => by
    have a := queue_acl g n (q ++ (ef ev t.behind).events) (takeT t (ef ev t.behind))
    have b := g ev t.behind
    have c : (takeT t (ef ev t.behind)).acted.length = t.acted.length + (ef ev t.behind).acted.length := List.length_append
    show (queueT ef n (q ++ (ef ev t.behind).events) (takeT t (ef ev t.behind))).2.acted.length ≤ _
    omega
theorem turns_acl {ef : Str → Tk → Ef} (g : ∀ ev t, (ef ev t).acted.length ≤ 8) (dsk : List Str) : ∀ (ds : List PyData) (tk : Option Tk), ∀ t ∈ turnsT ef dsk tk ds, t.acted.length ≤ 400
  | [], _ => fun _ m => nomatch m
  | d :: r, tk => fun t m => by
    rcases List.mem_cons.mp m with rfl | m
    · exact queue_acl g 50 _ (tnNew _ _)
    · exact turns_acl g dsk r _ t m
theorem good_d1 {dsk : List Str} {rs : List PyData} (g : goodBook dsk rs) : 1 ≤ dsk.length := by
  have h := g.1
  unfold areDesksD at h
  simp only [Bool.and_eq_true, decide_eq_true_eq, List.length_map] at h
  exact h.1.1.1
theorem deeds_lay {dsk : List Str} {ds : List PyData} (lo : lowOk dsk) (al : ∀ d ∈ ds, isDeedD dsk d = true) : layD 2 (.list ds) := fun d m => form_lay lo deedF_ok (al d m)
/-- desks, rules, a history, while pots are drawn from -/
structure Stp (K : PySem.W.Frag) (H : Hp) (lp : Addr) (ps : List Addr) (n : Nat) (da : Addr) (vr : V) (la : Addr) (dsk : List Str) (rs ds : List PyData) : Prop where
  pots : PotsAt H ps n
  elp : H lp = some (.lst (ps.map V.ref))
  nlp : lp ∉ ps
  l1 : 1 ≤ ps.length
  l63 : ps.length ≤ 63
  sd : SqT K H da (dsk.map V.str)
  ad : areDesksD (.tuple (dsk.map PyData.str)) = true
  rd : Dp K H vr (.tuple rs)
  rgood : ∀ e ∈ rs, isRuleD dsk e = true
  r8 : rs.length ≤ 8
  acts : ∃ vs, H la = some (.lst vs) ∧ DpAll K H vs ds
  nla : la ∉ ps
  deeds : ∀ d ∈ ds, isDeedD dsk d = true
  head : headW ds = true
  few : ds.length ≤ 1000
section
variable {H H' : Hp} {lp : Addr} {ps : List Addr} {n m : Nat} {da la : Addr} {vr : V} {dsk : List Str} {rs ds : List PyData}
theorem Stp.go (S : Stp K H lp ps n da vr la dsk rs ds) (k : NLs H H') (p : PotsAt H' ps m) (e1 : ∀ o, H lp = some o → H' lp = some o) (e2 : ∀ o, H la = some o → H' la = some o) : Stp K H' lp ps m da vr la dsk rs ds :=
  ⟨p, e1 _ S.elp, S.nlp, S.l1, S.l63, sqT_nls S.sd k, S.ad, dp_nls k 4 (rules_tpR S.rgood) S.rd, S.rgood, S.r8, by obtain ⟨vs, a, b⟩ := S.acts; exact ⟨vs, e2 _ a, deeds_nls k b fun d m => deed_of (S.deeds d m)⟩, S.nla, S.deeds, S.head, S.few⟩
theorem Stp.same (S : Stp K H lp ps n da vr la dsk rs ds) (s : Same H H') : Stp K H' lp ps n da vr la dsk rs ds := S.go (NLs.of s) (S.pots.same s) (fun o e => s _ _ e) fun o e => s _ _ e
theorem Stp.gr (S : Stp K H lp ps n da vr la dsk rs ds) (g : GrS ps H H') (p : PotsAt H' ps m) : Stp K H' lp ps m da vr la dsk rs ds := S.go (NLs.grS S.pots g) p (fun o e => g.keep _ _ S.nlp e) fun o e => g.keep _ _ S.nla e
theorem Stp.put {l : Addr} {o : HO} (S : Stp K H lp ps n da vr la dsk rs ds) (e : (∃ xs, H l = some (.lst xs)) ∨ ∃ kvs, H l = some (.dK kvs)) (n1 : l ≠ lp) (n2 : l ≠ la) (n3 : l ∉ ps) : Stp K (upd H l o) lp ps n da vr la dsk rs ds :=
  S.go (by
    rcases e with ⟨xs, e⟩ | ⟨kvs, e⟩
    · intro b o e2 nl
      rw [upd_ne fun c => by
        rw [c, e] at e2
        cases e2
        exact nl]
      exact e2
    · exact NLs.putD e) ⟨S.pots.nd, fun p m => by
    obtain ⟨a, b, c, e2, r⟩ := S.pots.at_ p m
    exact ⟨a, b, c, by rw [upd_ne fun z => n3 (by rw [← z]; exact m)]; exact e2, r⟩⟩ (fun o e => by rw [upd_ne (Ne.symm n1)]; exact e) fun o e => by rw [upd_ne (Ne.symm n2)]; exact e
theorem Stp.pot (S : Stp K H lp ps n da vr la dsk rs ds) {p : Addr} {many : Int} {Q : VK} {E : XK} (m : p ∈ ps) (hn : n < 2 ^ 60) (m0 : 0 < many) (m1 : many < 2 ^ 200)
    (q : ∀ (r : Nat) H', (r : Int) < many → GrS ps H H' → Stp K H' lp ps (n + 1) da vr la dsk rs ds → Q (.int (r : Nat)) H') : spDip [.ref p, .int many] H Q E :=
  ⟨p, many, n, rfl, S.pots.at_ _ m, hn, m0, m1, fun r H' r0 r1 g p1 => by
    obtain ⟨r, rfl⟩ := Int.eq_ofNat_of_zero_le r0
    exact q r H' r1 (GrS.one g m) (S.gr (GrS.one g m) (S.pots.gr g p1 (by omega)))⟩
theorem Stp.dp (S : Stp K H lp ps n da vr la dsk rs ds) : Dp K H (.ref la) (.list ds) := by
  obtain ⟨vs, e, d⟩ := S.acts
  exact .lst (.inl (.inl e)) d
theorem Stp.dis (S : Stp K H lp ps n da vr la dsk rs ds) : ∀ d ∈ ds, DeedIs dsk d := fun d m => deed_of (S.deeds d m)
theorem Stp.good (S : Stp K H lp ps n da vr la dsk rs ds) : goodBook dsk rs := good_of S.ad S.r8 S.rgood
theorem Stp.low (S : Stp K H lp ps n da vr la dsk rs ds) : lowOk dsk := good_low S.good
theorem Stp.d14 (S : Stp K H lp ps n da vr la dsk rs ds) : 1 ≤ dsk.length ∧ dsk.length ≤ 4 := by
  have h := S.ad
  unfold areDesksD at h
  simp only [Bool.and_eq_true, decide_eq_true_eq, List.length_map] at h
  exact h.1.1
theorem dps_strsQ {H : Hp} : ∀ zs : List Str, DpAll K H (zs.map V.str) (zs.map PyData.str)
  | [] => .nil
  | _ :: r => .cons (.str _) (dps_strsQ r)
theorem Stp.ddp (S : Stp K H lp ps n da vr la dsk rs ds) : Dp K H (.ref da) (.tuple (dsk.map PyData.str)) := .tup S.sd (dps_strsQ dsk)
theorem Stp.hist (S : Stp K H lp ps n da vr la dsk rs ds) (k : Nat) : (ds.take k).length ≤ 1000 ∧ (∀ d ∈ ds.take k, isDeedD dsk d = true) ∧ (ds.take k = [] ∨ headW (ds.take k) = true) :=
  ⟨by have := S.few; rw [List.length_take]; omega, fun d m => S.deeds d (List.mem_of_mem_take m), head_take S.head k⟩
theorem Stp.hist0 (S : Stp K H lp ps n da vr la dsk rs ds) : ds.length ≤ 1000 ∧ (∀ d ∈ ds, isDeedD dsk d = true) ∧ (ds = [] ∨ headW ds = true) := ⟨S.few, S.deeds, .inr S.head⟩
theorem Stp.layP (S : Stp K H lp ps n da vr la dsk rs ds) {es : List PyData} (al : ∀ d ∈ es, DeedIs dsk d) : layD 3 (.list (playT rs dsk es)) := reps_lay (turns_lay S.low S.d14.1 S.rgood al)
end
end
end Ld

set_option Elab.async false
set_option linter.all false
set_option maxRecDepth 100000
set_option maxHeartbeats 4000000
/-! Values that are no deeds. -/
namespace Ld
open PySem PySem.Spec PyProof.Rows L2
/-- 40 values; sp is the desk's name with a blank behind -/
def badL (desk odd sp : Str) : List PyData := [.none, .bool true, .int 0, .int 7, .str "letter", .str "day", .str "", .list [], .dict [], .tuple [], .list [.str "letter"], .list [.str "hand", .str desk],
  .tuple [.str "letter", .str "letter"], .tuple [.str "Letter"], .tuple [.str "letters"], .tuple [.str ""], .tuple [.none], .tuple [.bool true], .tuple [.tuple [.str "letter"]],
  .tuple [.str "desk"], .tuple [.str "moved"],
  .tuple [.str "replied"], .tuple [.str "answer", .bool true], .tuple [.str "day", .int 1], .tuple [.str "days"], .tuple [.str "hand"], .tuple [.str "hand", .str odd],
  .tuple [.str "hand", .str ""], .tuple [.str "hand", .none], .tuple [.str "hand", .list [.str desk]], .tuple [.str "hand", .tuple [.str desk]], .tuple [.str "hand", .str desk, .str desk],
  .tuple [.str "set"], .tuple [.str "set", .str "Open"], .tuple [.str "set", .str "answered"], .tuple [.str "set", .none], .tuple [.str "set", .bool true], .tuple [.str "set", .tuple []],
  .tuple [.str "set", .str "open", .str "open"], .tuple [.str "set", .str sp]]
theorem form_off {dsk : List Str} {w : Str} {rest : List PyData} (h : deedForms.find? (formIs w rest.length) = none) : isDeedD dsk (.tuple (.str w :: rest)) = false := by
  show (match deedForms.find? (formIs w rest.length) with
    | some f => (rest.zip f.tail).all fun p => fitsKind dsk p.2 p.1
    | none => false) = false
  rw [h]
theorem hand_off {dsk : List Str} {d : PyData} (h : isWordD dsk d = false) : isDeedD dsk (.tuple [.str "hand", d]) = false := by
  show (match deedForms.find? (formIs "hand" 1) with
    | some f => ([d].zip f.tail).all fun p => fitsKind dsk p.2 p.1
    | none => false) = false
  rw [show deedForms.find? (formIs "hand" 1) = some [("hand" : Str), "desk"] by decide +kernel]
  show (fitsKind dsk "desk" d && true) = false
  unfold fitsKind
  rw [if_neg (by decide +kernel), if_pos rfl, h]
  rfl
theorem set_off {dsk : List Str} {d : PyData} (h : isWordD statusesS d = false) : isDeedD dsk (.tuple [.str "set", d]) = false := by
  show (match deedForms.find? (formIs "set" 1) with
    | some f => ([d].zip f.tail).all fun p => fitsKind dsk p.2 p.1
    | none => false) = false
  rw [show deedForms.find? (formIs "set" 1) = some [("set" : Str), "status"] by decide +kernel]
  show (fitsKind dsk "status" d && true) = false
  unfold fitsKind
  rw [if_pos rfl, h]
  rfl
theorem word_off {ws : List Str} {z : Str} (h : z ∉ ws) : isWordD ws (.str z) = false := by
  cases c : isWordD ws (.str z) with
  | false => rfl
  | true =>
    unfold isWordD at c
    simp at c
    exact absurd c h
theorem sp_off (desk : Str) : desk ++ (" " : Str) ∉ statusesS := fun h => by
  have e : (desk ++ (" " : Str)).cps.back? = (" " : Str).cps.back? := by
    show (desk.cps ++ (" " : Str).cps).back? = _
    rw [show ((" " : Str)).cps = #[32] by decide +kernel]
    simp
  have no : ∀ z ∈ statusesS, ¬ z.cps.back? = (" " : Str).cps.back? := by decide +kernel
  exact no _ h e
theorem bad_not {dsk : List Str} {desk odd sp : Str} (ho : odd ∉ dsk) (he : ("" : Str) ∉ dsk) (hs : sp ∉ statusesS) : ∀ d ∈ badL desk odd sp, isDeedD dsk d = false := by
  intro d hd
  simp only [badL, List.mem_cons, List.not_mem_nil, or_false] at hd
  rcases hd with rfl | rfl | rfl | rfl | rfl | rfl | rfl | rfl | rfl | rfl | rfl | rfl | rfl | rfl | rfl | rfl | rfl | rfl | rfl | rfl | rfl | rfl | rfl | rfl | rfl | rfl | rfl | rfl | rfl | rfl | rfl | rfl | rfl | rfl | rfl | rfl | rfl | rfl | rfl | rfl
  all_goals first
    | rfl
    | exact form_off (by show List.find? _ _ = none; decide +kernel)
    | exact hand_off (word_off ho)
    | exact hand_off (word_off he)
    | exact set_off (word_off hs)
    | exact set_off (word_off (by decide +kernel))
    | exact hand_off rfl
    | exact set_off rfl
end Ld

set_option Elab.async false
set_option linter.all false
set_option maxRecDepth 100000
set_option maxHeartbeats 2000000
/-! xs[a:] = ys. -/
namespace Ld
open PySem PySem.Spec PyProof.Rows L2
theorem tail_bounds {a n : Nat} (h : a ≤ n) : sliceBounds (some (a : Int)) none none n = ((a : Int), (n : Int), 1) := by
  simp only [sliceBounds, Option.getD_none]
  have h1 : ¬ ((a : Int) < 0) := by omega
  simp only [h1, if_false, show (1 : Int) > 0 by decide, if_true]
  congr 1
  omega
theorem set_tail {prog : Program} {w : World} {A : Around} {E : Value → Shared → Prop} {t : Shared} {l b sl : Addr} {us ws : Array Value} {n n2 : Nat} {vl : Value} {a : Nat} {R : Unit → Shared → Prop}
    (e : t.heap.get? l = some { cls := .type "list", data := .seq us n }) (e2 : t.heap.get? b = some { cls := .type "list", data := .seq ws n2 }) (ne : l ≠ b)
    (hs : t.heap.IsSliceOf sl vl .none .none) (pl : IsPart vl (some (a : Int))) (ha : a ≤ us.size) (hsz : us.size + ws.size ≤ sizeLine)
    (h : R () { t with heap := t.heap.update l (Obj.mapSeq fun xs => xs.extract 0 a ++ ws ++ xs.extract us.size xs.size) }) : wpAny (model prog w) A (setItem (.ref l) (.ref sl) (.ref b)) R E t := by
  have isl : t.heap.IsList l us := PySem.IsL.isList e
  have isb : t.heap.IsList b ws := PySem.IsL.isList e2
  obtain ⟨os, hos, hcs, hds⟩ := id hs
  have tsl : t.TypeIs (.ref sl) "slice" := ⟨os, hos, hcs⟩
  have unlike : Builtin.List.listSameRef (.ref l) (.ref b) = false := by unfold Builtin.List.listSameRef; exact beq_eq_false_iff_ne.mpr ne
  unfold setItem
  try with_reducible refine wpAny_holding ?_
  first | refine wpAny_bind (wpAny_pure ?_) | skip
  refine wpAny_bind (wpAny_sequenceKey isl.typeIs (by decide) (wpAny_bind (wpAny_callSpecial?_slot (name := Str.ofString "__setitem__") isl.typeIs slot_list_setitem (wpAny_call_entry slot_list_setitem isl.typeIs entry_list_setitem ?_ (args_list_setitem _ _ _)))))
  show wpAny _ _ (Builtin.List.listSubscript? (.ref sl) >>= _) _ _ t
  unfold Builtin.List.listSubscript?
  refine wpAny_bind (wpAny_bind (wpAny_specialOf tsl slice_no_index ?_))
  refine PySem.W.KFB.if_so (by rfl) (wpAny_pure ?_)
  refine wpAny_bind (wpAny_typeOf tsl (PySem.W.KFB.if_not (by decide) ?_))
  rw [listSliceParts_eq]
  refine wpAny_bind (wpAny_bind (wpAny_field hos hds (x := .none) rfl (wpAny_bind (wpAny_listPart .none ?_))))
  refine PySem.W.KFB.if_not (by rfl) (wpAny_bind (wpAny_field hos hds (x := vl) rfl (wpAny_bind (wpAny_listPart pl (wpAny_bind (wpAny_field hos hds (x := .none) rfl (wpAny_bind (wpAny_listPart .none (wpAny_pure ?_)))))))))
  refine PySem.W.KFB.if_not unlike (wpAny_bind ?_)
  unfold Builtin.List.listAllItems
  refine wpAny_bind (wpAny_typeOf isb.typeIs (PySem.W.KFB.if_so (by decide) ?_))
  unfold Builtin.List.listItems
  refine wpAny_bind (wpAny_seqItems e2 rfl (wpAny_pure (wpAny_bind (wpAny_bind (wpAny_seqItems e rfl (wpAny_pure ?_))))))
  refine wpAny_bind (wpAny_of_eq ((sliceIndices_raw (some (a : Int)) none none us.size (by simp)).trans (congrArg (pure : Int × Int × Int → Sem (Int × Int × Int)) (tail_bounds ha))) ?_)
  refine PySem.W.KFB.if_so (by decide) (wpAny_bind (wpAny_rule (PySem.W.KFB.if_not (notLongL hsz) ?_)))
  have big : (max (a : Int) (us.size : Int)).toNat = us.size := by omega
  show wpAny _ _ (updateSeq l (fun xs => xs.extract 0 ((a : Int)).toNat ++ ws ++ xs.extract (max (a : Int) (us.size : Int)).toNat xs.size) >>= _) _ _ t
  rw [big, Int.toNat_natCast]
  refine wpAny_bind (wpAny_updateSeq (hz := Nat.le_trans (Nat.le_add_right _ _) hsz) (_hz' := ?_) e rfl (wpAny_bind (wpAny_letGo ?_)))
  · exact wpAny_pure ⟨.none, rfl, wpAny_pure h⟩
  · simp only [Array.size_append, Array.size_extract]
    omega
section
variable {X : Cx} {e i : Expr} {te : TE} {tl : TO} {p2 pos : Pos}
/-- xs[a:] = ys, another list -/
def gTail (to : TE) (tl : TO) : TG := fun x σ H N => to σ H fun y H1 => tl σ H1 fun lo H2 => ∃ (l b : Addr) (xs ys : List V) (a : Nat), y = .ref l ∧ x = .ref b ∧ lo = some (a : Int) ∧ H2 l = some (.lst xs) ∧ H2 b = some (.lst ys) ∧ l ≠ b ∧ a ≤ xs.length ∧ xs.length + ys.length ≤ sizeLine ∧ N σ (upd H2 l (.lst (xs.take a ++ ys)))
theorem set_tailV {pins : List (Addr × Obj)} {t : Shared} {σ : L2.St} {H : Hp} {l b sl : Addr} {xs ys : List V} {a : Nat} {vl : Value} {R : Unit → Shared → Prop} (I : Inv X pins σ H t)
    (el : H l = some (.lst xs)) (eb : H b = some (.lst ys)) (ne : l ≠ b) (hs : t.heap.IsSliceOf sl vl .none .none) (pl : IsPart vl (some (a : Int))) (ha : a ≤ xs.length) (hz : xs.length + ys.length ≤ sizeLine)
    (h : ∀ s', Inv X pins σ (upd H l (.lst (xs.take a ++ ys))) s' → R () s') : wpAny (model X.prog X.w) X.A (setItem (.ref l) (.ref sl) (.ref b)) R X.xe t := by
  obtain ⟨_, us, _, r, hl, e⟩ := I.lstM el
  obtain ⟨_, ws, _, r2, hl2, e2⟩ := I.lstM eb
  refine set_tail e e2 ne hs pl (by rw [List.size_toArray]; omega) (by rw [List.size_toArray, List.size_toArray]; omega) (h _ ?_)
  refine I.lset (its' := us.take a ++ ws) (t' := t.toks) el e ?_ (Vals.append (r.take _) r2) (by rw [List.length_append, List.length_take]; omega)
  have := splice_eq us ws a us.length
  rw [List.drop_length, List.append_nil] at this
  rw [← this]
  simp
theorem pg_tail (he : PE X e te) (hl : PO X (some i) tl)
    (ha : ∀ v, assign (.Subscript e (.Slice (some i) none none p2) pos) X.env v = (do
      let ov ← holding [v] (eval e X.env)
      let iv ← holding [v, ov] (eval (.Slice (some i) none none p2) X.env)
      standAt pos
      holding [v, ov, iv] (setItem ov iv v)
      release [iv, v, ov] []) := by intro _; rfl) : PG X (.Subscript e (.Slice (some i) none none p2) pos) (gTail te tl) := by
  refine ⟨fun pins t τ G x u R I r g => ?_⟩
  rw [ha]
  refine wpAny_bind (wpAny_holding (thn (he.run pins t τ G _ I g) fun ov t1 ⟨y, G1, I1, r1, q1⟩ => ?_))
  refine wpAny_bind (wpAny_holding (wpAny_Slice (thn (hl.run pins t1 τ G1 _ I1 q1) fun vl t2 ⟨lo, G2, I2, pl, q2⟩ => ?_)))
  obtain ⟨l, b, xs, ys, a, rfl, rfl, rfl, el, eb, ne, la, hz, q⟩ := q2
  rw [evalPart_none]
  refine wpAny_pure (wpAny_pure ?_)
  obtain rfl : u = Value.ref b := r
  obtain rfl : ov = Value.ref l := r1
  have J : Inv X pins τ G2 { t2 with heap := t2.heap.push { cls := .type "slice", data := .fields #[vl, .none, .none] } } := I2.kept (t' := t2.toks) fun c o k => Heap.get?_push_of_some _ k
  refine wpAny_bind (wpAny_standAt (wpAny_bind (wpAny_holding (set_tailV J el eb ne (Heap.IsSliceOf.new ..) pl la hz fun t3 J3 => ?_))))
  exact wpAny_release ⟨τ, _, J3, q⟩
end
end Ld

set_option Elab.async false
set_option linter.all false
set_option maxRecDepth 100000
set_option maxHeartbeats 4000000
namespace Ld
open PySem PySem.Spec PyProof.Rows L2
local macro_rules | `(tactic| walk_at "rd") => `(tactic| try simp only [tSeq, tNext, tRet, tRetN, tIfS, tTest, tB, tAnd, tOr, tNot, tAndV, tOrV, tNotV, tOp, tUn, tC, tVar, tCons, tNil, tCall, tCB, tAsg, tDrop, tChain, tIf, tYes, tBreak, tCont, tNever, tFld, sFld, sFldAug, tMeth, tMake, tRaiseF, tMkF, tM1, tOwn2S, tOwnIxS, tXf, tRevL, tMethS, tTup, tLst, tSl, tPart, tNoPart, tPar, tBM, tBM0, tLenSetT, tAug, gName, gTup, gCons, gNil, gStar2, gFld, gSub, rI0, rI, rU, rIxU, rIxS, rIn, rInU, rAddU, rSlU, rLenU, rTupU, rListU, rRep, rEqU_ss, rEqU_ii, rEqU_bb, rEqU_r, rNeU_ss, rNeU_ii, rNeU_bb, rNeU_r, cxOf, L2.start, wipe, List.map_cons, List.map_nil, List.length_cons, List.length_nil, List.replicate, List.cons_append, List.nil_append, List.append_nil, Nat.reduceSub, Nat.reduceAdd, List.getElem?_cons_zero, List.getElem?_cons_succ, List.set_cons_zero, List.set_cons_succ, Option.some.injEq, exists_eq_left', exists_eq_left, exists_eq, exists_and_left, V.bl.injEq, V.int.injEq, V.str.injEq, V.ref.injEq, V.ty.injEq, reduceCtorEq, false_and, and_false, exists_false, false_or, or_false, true_and, and_true, if_true, if_false, Bool.false_eq_true, ite_true, ite_false, reduceIte, decide_true, decide_false, Bool.not_true, Bool.not_false, Bool.not_eq_true, Bool.true_and, Bool.false_and, Bool.and_true, Bool.and_false, List.cons.injEq, and_assoc])
local macro_rules | `(tactic| walk_at "rn") => `(tactic| try simp only [tSeq, tNext, tRet, tRetN, tIfS, tTest, tB, tAnd, tOr, tNot, tAndV, tOrV, tNotV, tOp, tUn, tC, tVar, tCons, tNil, tCall, tCB, tAsg, tDrop, tChain, tIf, tYes, tBreak, tCont, tNever, tFld, sFld, sFldAug, tMeth, tMake, tRaiseF, tMkF, tM1, tOwn2S, tOwnIxS, tXf, tRevL, tMethS, tCallS, tMethK1, tDNewK, tRevT, Ends.cut, tDGet, rNotN, tNGet, sNPut, tNNew, tTup, tLst, tSl, tPart, tNoPart, tPar, tBM, tBM0, tLenSetT, tAug, gName, gTup, gCons, gNil, gStar2, gFld, gSub, rI0, rI, rU, rAddU_ii, tFor_rng, tLc_rng, rRep, rEqU_ss, rEqU_ii, rEqU_bb, rEqU_r, rNeU_ss, rNeU_ii, rNeU_bb, rNeU_r, cxOf, L2.start, wipe, List.map_cons, List.map_nil, List.length_cons, List.length_nil, List.replicate, List.cons_append, List.nil_append, List.append_nil, Nat.reduceSub, Nat.reduceAdd, List.getElem?_cons_zero, List.getElem?_cons_succ, List.set_cons_zero, List.set_cons_succ, Option.some.injEq, exists_eq_left', exists_eq_left, exists_eq, exists_and_left, V.bl.injEq, V.int.injEq, V.str.injEq, V.ref.injEq, V.ty.injEq, reduceCtorEq, false_and, and_false, exists_false, false_or, or_false, true_and, and_true, if_true, if_false, Bool.false_eq_true, ite_true, ite_false, reduceIte, decide_true, decide_false, Bool.not_true, Bool.not_false, Bool.not_eq_true, Bool.true_and, Bool.false_and, Bool.and_true, Bool.and_false, List.cons.injEq, and_assoc])
local macro_rules | `(tactic| walk_at "lay") => `(tactic| (apply lay_new; intro l h qq s n e; rw [← qq]; clear qq))
section
variable {P : Program} {w : World} {K : PySem.W.Frag} {mg : Str → Option Value} {base : Heap} {Z : Ad}
theorem desk_name {dsk : List Str} (h : areDesksD (.tuple (dsk.map PyData.str)) = true) {z : Str} (m : z ∈ dsk) : 1 ≤ z.length ∧ z.length ≤ 8 := by
  unfold areDesksD at h
  simp only [Bool.and_eq_true, decide_eq_true_eq] at h
  have al := h.1.2
  rw [List.all_eq_true] at al
  have n := al (.str z) (List.mem_map.mpr ⟨z, m, rfl⟩)
  have n : isNameS z = true := n
  unfold isNameS at n
  simp only [Bool.and_eq_true, decide_eq_true_eq] at n
  omega
/-- a value, or a dict, that hangs on nothing that stood in H -/
def Fq (K : PySem.W.Frag) (H H1 : Hp) (v : V) (d : PyData) : Prop := ∀ (bad : Addr → Prop) (H' : Hp), (∀ b, bad b → H b ≠ none) → Keep bad H1 H' → Dq K H' v d
def spBad (K : PySem.W.Frag) : Sp := fun vs H Q _ => ∃ (p a : Addr) (n : Nat) (dsk : List Str) (odd : Str), vs = [.ref p, .ref a, .str odd] ∧ PotAt H p n ∧ n + 2 < 2 ^ 60 ∧ SqT K H a (dsk.map V.str) ∧ 1 ≤ dsk.length ∧ dsk.length ≤ 4 ∧ (∀ z ∈ dsk, z.length ≤ 8) ∧
  ∀ v d z H', z ∈ dsk → d ∈ badL z odd (z ++ (" " : Str)) → Fq K H H' v d → Gr p H H' → PotAt H' p (n + 2) → Q v H'
theorem d__law_bad (T : TX P K mg Z) : DefOk P w K mg base "_law_bad" ["pot", "desks", "odd"] 3 (spBad K) := by
  refine T.f__law_bad.ok sc__law_bad (by rintro _ _ _ _ ⟨_, _, _, _, _, rfl, _⟩; rfl) fun f cdv A outer s H vs Q E hr h => ?_
  obtain ⟨p, a, n, dsk, odd, rfl, hp, hn, ha, l1, l4, sh, q⟩ := h
  refine ⟨_, (pss_cons (ps_set (i := 3) sc__law_bad.nd rfl (by first | exact Or.inl rfl | exact Or.inr rfl) (pe_ix (kIx (K := K)) (pv 1) (pe_callD (d__law_dip T) hr rfl passL (pa_cons (pv 0) (pa_cons (pe_callB (kLen (K := K)) (by rfl) T.b_len PySem.boot_len (pa_cons (pv 1) pa_nil)) pa_nil))) (fun _ _ => rfl))) (pss_cons (ps_set (i := 4) sc__law_bad.nd rfl (by first | exact Or.inl rfl | exact Or.inr rfl) (pe_lst (pa_cons pe_non (pa_cons pe_bl (pa_cons pe_int (pa_cons pe_int (pa_cons pe_str (pa_cons pe_str (pa_cons pe_str (pa_cons (pe_lst pa_nil) (pa_cons pe_dnewK (pa_cons (pe_tup pa_nil) (pa_cons (pe_lst (pa_cons pe_str pa_nil)) (pa_cons (pe_lst (pa_cons pe_str (pa_cons (pv 3) pa_nil))) pa_nil)))))))))))))) (pss_cons (ps_set (i := 4) sc__law_bad.nd rfl (by first | exact Or.inl rfl | exact Or.inr rfl) (pe_op (kAdd (K := K)) (pv 4) (pe_lst (pa_cons (pe_tup (pa_cons pe_str (pa_cons pe_str pa_nil))) (pa_cons (pe_tup (pa_cons pe_str pa_nil)) (pa_cons (pe_tup (pa_cons pe_str pa_nil)) (pa_cons (pe_tup (pa_cons pe_str pa_nil)) (pa_cons (pe_tup (pa_cons pe_non pa_nil)) (pa_cons (pe_tup (pa_cons pe_bl pa_nil)) (pa_cons (pe_tup (pa_cons (pe_tup (pa_cons pe_str pa_nil)) pa_nil)) pa_nil)))))))))) (pss_cons (ps_set (i := 4) sc__law_bad.nd rfl (by first | exact Or.inl rfl | exact Or.inr rfl) (pe_op (kAdd (K := K)) (pv 4) (pe_lst (pa_cons (pe_tup (pa_cons pe_str pa_nil)) (pa_cons (pe_tup (pa_cons pe_str pa_nil)) pa_nil))))) (pss_cons (ps_set (i := 4) sc__law_bad.nd rfl (by first | exact Or.inl rfl | exact Or.inr rfl) (pe_op (kAdd (K := K)) (pv 4) (pe_lst (pa_cons (pe_tup (pa_cons pe_str pa_nil)) (pa_cons (pe_tup (pa_cons pe_str (pa_cons pe_bl pa_nil))) (pa_cons (pe_tup (pa_cons pe_str (pa_cons pe_int pa_nil))) (pa_cons (pe_tup (pa_cons pe_str pa_nil)) (pa_cons (pe_tup (pa_cons pe_str pa_nil)) (pa_cons (pe_tup (pa_cons pe_str (pa_cons (pv 2) pa_nil))) pa_nil))))))))) (pss_cons (ps_set (i := 4) sc__law_bad.nd rfl (by first | exact Or.inl rfl | exact Or.inr rfl) (pe_op (kAdd (K := K)) (pv 4) (pe_lst (pa_cons (pe_tup (pa_cons pe_str (pa_cons pe_str pa_nil))) (pa_cons (pe_tup (pa_cons pe_str (pa_cons pe_non pa_nil))) (pa_cons (pe_tup (pa_cons pe_str (pa_cons (pe_lst (pa_cons (pv 3) pa_nil)) pa_nil))) (pa_cons (pe_tup (pa_cons pe_str (pa_cons (pe_tup (pa_cons (pv 3) pa_nil)) pa_nil))) (pa_cons (pe_tup (pa_cons pe_str (pa_cons (pv 3) (pa_cons (pv 3) pa_nil)))) pa_nil)))))))) (pss_cons (ps_set (i := 4) sc__law_bad.nd rfl (by first | exact Or.inl rfl | exact Or.inr rfl) (pe_op (kAdd (K := K)) (pv 4) (pe_lst (pa_cons (pe_tup (pa_cons pe_str pa_nil)) (pa_cons (pe_tup (pa_cons pe_str (pa_cons pe_str pa_nil))) (pa_cons (pe_tup (pa_cons pe_str (pa_cons pe_str pa_nil))) (pa_cons (pe_tup (pa_cons pe_str (pa_cons pe_non pa_nil))) (pa_cons (pe_tup (pa_cons pe_str (pa_cons pe_bl pa_nil))) (pa_cons (pe_tup (pa_cons pe_str (pa_cons (pe_tup pa_nil) pa_nil))) pa_nil))))))))) (pss_cons (ps_set (i := 4) sc__law_bad.nd rfl (by first | exact Or.inl rfl | exact Or.inr rfl) (pe_op (kAdd (K := K)) (pv 4) (pe_lst (pa_cons (pe_tup (pa_cons pe_str (pa_cons pe_str (pa_cons pe_str pa_nil)))) (pa_cons (pe_tup (pa_cons pe_str (pa_cons (pe_op op_add_str (pv 3) pe_str) pa_nil))) pa_nil))))) (pss_one (ps_ret (pe_ix (kIx (K := K)) (pv 4) (pe_callD (d__law_dip T) hr rfl passL (pa_cons (pv 0) (pa_cons pe_int pa_nil))) (fun _ _ => rfl)))))))))))), ?_⟩
  walk_at "rn"
  refine len_t ha ?_
  rw [List.length_map]
  refine ⟨p, _, n, rfl, hp, by omega, by omega, by omega, fun k0 H2 k00 k01 g2 p2 => ?_⟩
  refine ix_pickT (sqT_gr ha hp g2) k00 k01 fun z mz => ?_
  have lsp : z.length + (" " : Str).length ≤ sizeLine := by
    have := sh z mz
    have e : (" " : Str).length = 1 := by decide +kernel
    rw [sizeLine_eq]
    omega
  walk_at "rn"
  refine ⟨by decide +kernel, ?_⟩
  walk_at "lay"
  rename_i l1 H3 s3 n3 el1
  walk_at "lay"
  rename_i d2 H4 s4 n4 ed2
  refine ⟨by decide +kernel, ?_⟩
  walk_at "lay"
  rename_i t3 H5 s5 n5 et3
  refine ⟨by decide +kernel, ?_⟩
  walk_at "lay"
  rename_i l4 H6 s6 n6 el4
  refine ⟨by decide +kernel, ?_⟩
  walk_at "lay"
  rename_i l5 H7 s7 n7 el5
  refine ⟨by decide +kernel, ?_⟩
  walk_at "lay"
  rename_i L6 H8 s8 n8 eL6
  refine ⟨by decide +kernel, ?_⟩
  walk_at "lay"
  rename_i t7 H9 s9 n9 et7
  refine ⟨by decide +kernel, ?_⟩
  walk_at "lay"
  rename_i t8 H10 s10 n10 et8
  refine ⟨by decide +kernel, ?_⟩
  walk_at "lay"
  rename_i t9 H11 s11 n11 et9
  refine ⟨by decide +kernel, ?_⟩
  walk_at "lay"
  rename_i t10 H12 s12 n12 et10
  refine ⟨by decide +kernel, ?_⟩
  walk_at "lay"
  rename_i t11 H13 s13 n13 et11
  refine ⟨by decide +kernel, ?_⟩
  walk_at "lay"
  rename_i t12 H14 s14 n14 et12
  refine ⟨by decide +kernel, ?_⟩
  walk_at "lay"
  rename_i t13 H15 s15 n15 et13
  refine ⟨by decide +kernel, ?_⟩
  walk_at "lay"
  rename_i t14 H16 s16 n16 et14
  refine ⟨by decide +kernel, ?_⟩
  walk_at "lay"
  rename_i L15 H17 s17 n17 eL15
  refine cat_l ((s9.trans (s10.trans (s11.trans (s12.trans (s13.trans (s14.trans (s15.trans (s16.trans s17)))))))) _ _ eL6) ((Same.refl _) _ _ eL15) (by simp) ?_
  walk_at "lay"
  rename_i C16 H18 s18 n18 eC16
  refine ⟨by decide +kernel, ?_⟩
  walk_at "lay"
  rename_i t17 H19 s19 n19 et17
  refine ⟨by decide +kernel, ?_⟩
  walk_at "lay"
  rename_i t18 H20 s20 n20 et18
  refine ⟨by decide +kernel, ?_⟩
  walk_at "lay"
  rename_i L19 H21 s21 n21 eL19
  refine cat_l ((s19.trans (s20.trans s21)) _ _ eC16) ((Same.refl _) _ _ eL19) (by simp) ?_
  walk_at "lay"
  rename_i C20 H22 s22 n22 eC20
  refine ⟨by decide +kernel, ?_⟩
  walk_at "lay"
  rename_i t21 H23 s23 n23 et21
  refine ⟨by decide +kernel, ?_⟩
  walk_at "lay"
  rename_i t22 H24 s24 n24 et22
  refine ⟨by decide +kernel, ?_⟩
  walk_at "lay"
  rename_i t23 H25 s25 n25 et23
  refine ⟨by decide +kernel, ?_⟩
  walk_at "lay"
  rename_i t24 H26 s26 n26 et24
  refine ⟨by decide +kernel, ?_⟩
  walk_at "lay"
  rename_i t25 H27 s27 n27 et25
  refine ⟨by decide +kernel, ?_⟩
  walk_at "lay"
  rename_i t26 H28 s28 n28 et26
  refine ⟨by decide +kernel, ?_⟩
  walk_at "lay"
  rename_i L27 H29 s29 n29 eL27
  refine cat_l ((s23.trans (s24.trans (s25.trans (s26.trans (s27.trans (s28.trans s29)))))) _ _ eC20) ((Same.refl _) _ _ eL27) (by simp) ?_
  walk_at "lay"
  rename_i C28 H30 s30 n30 eC28
  refine ⟨by decide +kernel, ?_⟩
  walk_at "lay"
  rename_i t29 H31 s31 n31 et29
  refine ⟨by decide +kernel, ?_⟩
  walk_at "lay"
  rename_i t30 H32 s32 n32 et30
  refine ⟨by decide +kernel, ?_⟩
  walk_at "lay"
  rename_i l31 H33 s33 n33 el31
  refine ⟨by decide +kernel, ?_⟩
  walk_at "lay"
  rename_i t32 H34 s34 n34 et32
  refine ⟨by decide +kernel, ?_⟩
  walk_at "lay"
  rename_i t33 H35 s35 n35 et33
  refine ⟨by decide +kernel, ?_⟩
  walk_at "lay"
  rename_i t34 H36 s36 n36 et34
  refine ⟨by decide +kernel, ?_⟩
  walk_at "lay"
  rename_i t35 H37 s37 n37 et35
  refine ⟨by decide +kernel, ?_⟩
  walk_at "lay"
  rename_i L36 H38 s38 n38 eL36
  refine cat_l ((s31.trans (s32.trans (s33.trans (s34.trans (s35.trans (s36.trans (s37.trans s38))))))) _ _ eC28) ((Same.refl _) _ _ eL36) (by simp) ?_
  walk_at "lay"
  rename_i C37 H39 s39 n39 eC37
  refine ⟨by decide +kernel, ?_⟩
  walk_at "lay"
  rename_i t38 H40 s40 n40 et38
  refine ⟨by decide +kernel, ?_⟩
  walk_at "lay"
  rename_i t39 H41 s41 n41 et39
  refine ⟨by decide +kernel, ?_⟩
  walk_at "lay"
  rename_i t40 H42 s42 n42 et40
  refine ⟨by decide +kernel, ?_⟩
  walk_at "lay"
  rename_i t41 H43 s43 n43 et41
  refine ⟨by decide +kernel, ?_⟩
  walk_at "lay"
  rename_i t42 H44 s44 n44 et42
  refine ⟨by decide +kernel, ?_⟩
  walk_at "lay"
  rename_i t43 H45 s45 n45 et43
  refine ⟨by decide +kernel, ?_⟩
  walk_at "lay"
  rename_i t44 H46 s46 n46 et44
  refine ⟨by decide +kernel, ?_⟩
  walk_at "lay"
  rename_i L45 H47 s47 n47 eL45
  refine cat_l ((s40.trans (s41.trans (s42.trans (s43.trans (s44.trans (s45.trans (s46.trans s47))))))) _ _ eC37) ((Same.refl _) _ _ eL45) (by simp) ?_
  walk_at "lay"
  rename_i C46 H48 s48 n48 eC46
  refine ⟨by decide +kernel, ?_⟩
  walk_at "lay"
  rename_i t47 H49 s49 n49 et47
  refine ⟨lsp, ?_⟩
  refine ⟨by decide +kernel, ?_⟩
  walk_at "lay"
  rename_i t48 H50 s50 n50 et48
  refine ⟨by decide +kernel, ?_⟩
  walk_at "lay"
  rename_i L49 H51 s51 n51 eL49
  refine cat_l ((s49.trans (s50.trans s51)) _ _ eC46) ((Same.refl _) _ _ eL49) (by simp) ?_
  walk_at "lay"
  rename_i C50 H52 s52 n52 eC50
  have U2 : Same H2 H2 := Same.refl H2
  have U3 := U2.trans s3
  have U4 := U3.trans s4
  have U5 := U4.trans s5
  have U6 := U5.trans s6
  have U7 := U6.trans s7
  have U8 := U7.trans s8
  have U9 := U8.trans s9
  have U10 := U9.trans s10
  have U11 := U10.trans s11
  have U12 := U11.trans s12
  have U13 := U12.trans s13
  have U14 := U13.trans s14
  have U15 := U14.trans s15
  have U16 := U15.trans s16
  have U17 := U16.trans s17
  have U18 := U17.trans s18
  have U19 := U18.trans s19
  have U20 := U19.trans s20
  have U21 := U20.trans s21
  have U22 := U21.trans s22
  have U23 := U22.trans s23
  have U24 := U23.trans s24
  have U25 := U24.trans s25
  have U26 := U25.trans s26
  have U27 := U26.trans s27
  have U28 := U27.trans s28
  have U29 := U28.trans s29
  have U30 := U29.trans s30
  have U31 := U30.trans s31
  have U32 := U31.trans s32
  have U33 := U32.trans s33
  have U34 := U33.trans s34
  have U35 := U34.trans s35
  have U36 := U35.trans s36
  have U37 := U36.trans s37
  have U38 := U37.trans s38
  have U39 := U38.trans s39
  have U40 := U39.trans s40
  have U41 := U40.trans s41
  have U42 := U41.trans s42
  have U43 := U42.trans s43
  have U44 := U43.trans s44
  have U45 := U44.trans s45
  have U46 := U45.trans s46
  have U47 := U46.trans s47
  have U48 := U47.trans s48
  have U49 := U48.trans s49
  have U50 := U49.trans s50
  have U51 := U50.trans s51
  have U52 := U51.trans s52
  have V52 : Same H52 H52 := Same.refl _
  have V51 := s52.trans V52
  have V50 := s51.trans V51
  have V49 := s50.trans V50
  have V48 := s49.trans V49
  have V47 := s48.trans V48
  have V46 := s47.trans V47
  have V45 := s46.trans V46
  have V44 := s45.trans V45
  have V43 := s44.trans V44
  have V42 := s43.trans V43
  have V41 := s42.trans V42
  have V40 := s41.trans V41
  have V39 := s40.trans V40
  have V38 := s39.trans V39
  have V37 := s38.trans V38
  have V36 := s37.trans V37
  have V35 := s36.trans V36
  have V34 := s35.trans V35
  have V33 := s34.trans V34
  have V32 := s33.trans V33
  have V31 := s32.trans V32
  have V30 := s31.trans V31
  have V29 := s30.trans V30
  have V28 := s29.trans V29
  have V27 := s28.trans V28
  have V26 := s27.trans V27
  have V25 := s26.trans V26
  have V24 := s25.trans V25
  have V23 := s24.trans V24
  have V22 := s23.trans V23
  have V21 := s22.trans V22
  have V20 := s21.trans V21
  have V19 := s20.trans V20
  have V18 := s19.trans V19
  have V17 := s18.trans V18
  have V16 := s17.trans V17
  have V15 := s16.trans V16
  have V14 := s15.trans V15
  have V13 := s14.trans V14
  have V12 := s13.trans V13
  have V11 := s12.trans V12
  have V10 := s11.trans V11
  have V9 := s10.trans V10
  have V8 := s9.trans V9
  have V7 := s8.trans V8
  have V6 := s7.trans V7
  have V5 := s6.trans V6
  have V4 := s5.trans V5
  have V3 := s4.trans V4
  refine ⟨p, _, _, rfl, p2.same U52, by omega, by decide, by decide, fun r Hr r0 r1 gr pr => ?_⟩
  have g := g2.trans ((Gr.of (p := p) U52).trans gr)
  have eL : Hr C50 = some (.lst [.non, .bl true, .int 0, .int 7, .str "letter", .str "day", .str "", .ref l1, .ref d2, .ref t3, .ref l4, .ref l5, .ref t7, .ref t8, .ref t9, .ref t10, .ref t11, .ref t12, .ref t14, .ref t17, .ref t18, .ref t21, .ref t22, .ref t23, .ref t24, .ref t25, .ref t26, .ref t29, .ref t30, .ref t32, .ref t34, .ref t35, .ref t38, .ref t39, .ref t40, .ref t41, .ref t42, .ref t44, .ref t47, .ref t48]) := gr.keep _ _ (fun c => (p2.same U51).ne (c ▸ n52)) (V52 _ _ eC50)
  obtain ⟨i, rfl⟩ := Int.eq_ofNat_of_zero_le r0
  have hi : i < 40 := by omega
  obtain ⟨x, hx⟩ : ∃ x, ([.non, .bl true, .int 0, .int 7, .str "letter", .str "day", .str "", .ref l1, .ref d2, .ref t3, .ref l4, .ref l5, .ref t7, .ref t8, .ref t9, .ref t10, .ref t11, .ref t12, .ref t14, .ref t17, .ref t18, .ref t21, .ref t22, .ref t23, .ref t24, .ref t25, .ref t26, .ref t29, .ref t30, .ref t32, .ref t34, .ref t35, .ref t38, .ref t39, .ref t40, .ref t41, .ref t42, .ref t44, .ref t47, .ref t48] : List V)[i]? = some x := ⟨_, List.getElem?_eq_getElem (by exact hi)⟩
  obtain ⟨d, hd⟩ : ∃ d, (badL z odd (z ++ (" " : Str)))[i]? = some d := ⟨_, List.getElem?_eq_getElem (by exact hi)⟩
  refine ix_l (.inl (.inl eL)) (atI_nat hx) (q x d z Hr mz (List.mem_of_getElem? hd) (fun bad Hz hbz kz => ?_) g pr)
  have E_l1 : Hz l1 = some (.lst []) := kz _ _ (fun c => hbz _ c (g2.none (U2.free n3))) (gr.keep _ _ (fun c => (p2.same U2).ne (c ▸ n3)) (V3 _ _ el1))
  have E_d2 : Hz d2 = some (.dK []) := kz _ _ (fun c => hbz _ c (g2.none (U3.free n4))) (gr.keep _ _ (fun c => (p2.same U3).ne (c ▸ n4)) (V4 _ _ ed2))
  have E_t3 : Hz t3 = some (.tup []) := kz _ _ (fun c => hbz _ c (g2.none (U4.free n5))) (gr.keep _ _ (fun c => (p2.same U4).ne (c ▸ n5)) (V5 _ _ et3))
  have E_l4 : Hz l4 = some (.lst [.str "letter"]) := kz _ _ (fun c => hbz _ c (g2.none (U5.free n6))) (gr.keep _ _ (fun c => (p2.same U5).ne (c ▸ n6)) (V6 _ _ el4))
  have E_l5 : Hz l5 = some (.lst [.str "hand", .str z]) := kz _ _ (fun c => hbz _ c (g2.none (U6.free n7))) (gr.keep _ _ (fun c => (p2.same U6).ne (c ▸ n7)) (V7 _ _ el5))
  have E_t7 : Hz t7 = some (.tup [.str "letter", .str "letter"]) := kz _ _ (fun c => hbz _ c (g2.none (U8.free n9))) (gr.keep _ _ (fun c => (p2.same U8).ne (c ▸ n9)) (V9 _ _ et7))
  have E_t8 : Hz t8 = some (.tup [.str "Letter"]) := kz _ _ (fun c => hbz _ c (g2.none (U9.free n10))) (gr.keep _ _ (fun c => (p2.same U9).ne (c ▸ n10)) (V10 _ _ et8))
  have E_t9 : Hz t9 = some (.tup [.str "letters"]) := kz _ _ (fun c => hbz _ c (g2.none (U10.free n11))) (gr.keep _ _ (fun c => (p2.same U10).ne (c ▸ n11)) (V11 _ _ et9))
  have E_t10 : Hz t10 = some (.tup [.str ""]) := kz _ _ (fun c => hbz _ c (g2.none (U11.free n12))) (gr.keep _ _ (fun c => (p2.same U11).ne (c ▸ n12)) (V12 _ _ et10))
  have E_t11 : Hz t11 = some (.tup [.non]) := kz _ _ (fun c => hbz _ c (g2.none (U12.free n13))) (gr.keep _ _ (fun c => (p2.same U12).ne (c ▸ n13)) (V13 _ _ et11))
  have E_t12 : Hz t12 = some (.tup [.bl true]) := kz _ _ (fun c => hbz _ c (g2.none (U13.free n14))) (gr.keep _ _ (fun c => (p2.same U13).ne (c ▸ n14)) (V14 _ _ et12))
  have E_t13 : Hz t13 = some (.tup [.str "letter"]) := kz _ _ (fun c => hbz _ c (g2.none (U14.free n15))) (gr.keep _ _ (fun c => (p2.same U14).ne (c ▸ n15)) (V15 _ _ et13))
  have E_t14 : Hz t14 = some (.tup [.ref t13]) := kz _ _ (fun c => hbz _ c (g2.none (U15.free n16))) (gr.keep _ _ (fun c => (p2.same U15).ne (c ▸ n16)) (V16 _ _ et14))
  have E_t17 : Hz t17 = some (.tup [.str "desk"]) := kz _ _ (fun c => hbz _ c (g2.none (U18.free n19))) (gr.keep _ _ (fun c => (p2.same U18).ne (c ▸ n19)) (V19 _ _ et17))
  have E_t18 : Hz t18 = some (.tup [.str "moved"]) := kz _ _ (fun c => hbz _ c (g2.none (U19.free n20))) (gr.keep _ _ (fun c => (p2.same U19).ne (c ▸ n20)) (V20 _ _ et18))
  have E_t21 : Hz t21 = some (.tup [.str "replied"]) := kz _ _ (fun c => hbz _ c (g2.none (U22.free n23))) (gr.keep _ _ (fun c => (p2.same U22).ne (c ▸ n23)) (V23 _ _ et21))
  have E_t22 : Hz t22 = some (.tup [.str "answer", .bl true]) := kz _ _ (fun c => hbz _ c (g2.none (U23.free n24))) (gr.keep _ _ (fun c => (p2.same U23).ne (c ▸ n24)) (V24 _ _ et22))
  have E_t23 : Hz t23 = some (.tup [.str "day", .int 1]) := kz _ _ (fun c => hbz _ c (g2.none (U24.free n25))) (gr.keep _ _ (fun c => (p2.same U24).ne (c ▸ n25)) (V25 _ _ et23))
  have E_t24 : Hz t24 = some (.tup [.str "days"]) := kz _ _ (fun c => hbz _ c (g2.none (U25.free n26))) (gr.keep _ _ (fun c => (p2.same U25).ne (c ▸ n26)) (V26 _ _ et24))
  have E_t25 : Hz t25 = some (.tup [.str "hand"]) := kz _ _ (fun c => hbz _ c (g2.none (U26.free n27))) (gr.keep _ _ (fun c => (p2.same U26).ne (c ▸ n27)) (V27 _ _ et25))
  have E_t26 : Hz t26 = some (.tup [.str "hand", .str odd]) := kz _ _ (fun c => hbz _ c (g2.none (U27.free n28))) (gr.keep _ _ (fun c => (p2.same U27).ne (c ▸ n28)) (V28 _ _ et26))
  have E_t29 : Hz t29 = some (.tup [.str "hand", .str ""]) := kz _ _ (fun c => hbz _ c (g2.none (U30.free n31))) (gr.keep _ _ (fun c => (p2.same U30).ne (c ▸ n31)) (V31 _ _ et29))
  have E_t30 : Hz t30 = some (.tup [.str "hand", .non]) := kz _ _ (fun c => hbz _ c (g2.none (U31.free n32))) (gr.keep _ _ (fun c => (p2.same U31).ne (c ▸ n32)) (V32 _ _ et30))
  have E_l31 : Hz l31 = some (.lst [.str z]) := kz _ _ (fun c => hbz _ c (g2.none (U32.free n33))) (gr.keep _ _ (fun c => (p2.same U32).ne (c ▸ n33)) (V33 _ _ el31))
  have E_t32 : Hz t32 = some (.tup [.str "hand", .ref l31]) := kz _ _ (fun c => hbz _ c (g2.none (U33.free n34))) (gr.keep _ _ (fun c => (p2.same U33).ne (c ▸ n34)) (V34 _ _ et32))
  have E_t33 : Hz t33 = some (.tup [.str z]) := kz _ _ (fun c => hbz _ c (g2.none (U34.free n35))) (gr.keep _ _ (fun c => (p2.same U34).ne (c ▸ n35)) (V35 _ _ et33))
  have E_t34 : Hz t34 = some (.tup [.str "hand", .ref t33]) := kz _ _ (fun c => hbz _ c (g2.none (U35.free n36))) (gr.keep _ _ (fun c => (p2.same U35).ne (c ▸ n36)) (V36 _ _ et34))
  have E_t35 : Hz t35 = some (.tup [.str "hand", .str z, .str z]) := kz _ _ (fun c => hbz _ c (g2.none (U36.free n37))) (gr.keep _ _ (fun c => (p2.same U36).ne (c ▸ n37)) (V37 _ _ et35))
  have E_t38 : Hz t38 = some (.tup [.str "set"]) := kz _ _ (fun c => hbz _ c (g2.none (U39.free n40))) (gr.keep _ _ (fun c => (p2.same U39).ne (c ▸ n40)) (V40 _ _ et38))
  have E_t39 : Hz t39 = some (.tup [.str "set", .str "Open"]) := kz _ _ (fun c => hbz _ c (g2.none (U40.free n41))) (gr.keep _ _ (fun c => (p2.same U40).ne (c ▸ n41)) (V41 _ _ et39))
  have E_t40 : Hz t40 = some (.tup [.str "set", .str "answered"]) := kz _ _ (fun c => hbz _ c (g2.none (U41.free n42))) (gr.keep _ _ (fun c => (p2.same U41).ne (c ▸ n42)) (V42 _ _ et40))
  have E_t41 : Hz t41 = some (.tup [.str "set", .non]) := kz _ _ (fun c => hbz _ c (g2.none (U42.free n43))) (gr.keep _ _ (fun c => (p2.same U42).ne (c ▸ n43)) (V43 _ _ et41))
  have E_t42 : Hz t42 = some (.tup [.str "set", .bl true]) := kz _ _ (fun c => hbz _ c (g2.none (U43.free n44))) (gr.keep _ _ (fun c => (p2.same U43).ne (c ▸ n44)) (V44 _ _ et42))
  have E_t43 : Hz t43 = some (.tup []) := kz _ _ (fun c => hbz _ c (g2.none (U44.free n45))) (gr.keep _ _ (fun c => (p2.same U44).ne (c ▸ n45)) (V45 _ _ et43))
  have E_t44 : Hz t44 = some (.tup [.str "set", .ref t43]) := kz _ _ (fun c => hbz _ c (g2.none (U45.free n46))) (gr.keep _ _ (fun c => (p2.same U45).ne (c ▸ n46)) (V46 _ _ et44))
  have E_t47 : Hz t47 = some (.tup [.str "set", .str "open", .str "open"]) := kz _ _ (fun c => hbz _ c (g2.none (U48.free n49))) (gr.keep _ _ (fun c => (p2.same U48).ne (c ▸ n49)) (V49 _ _ et47))
  have E_t48 : Hz t48 = some (.tup [.str "set", .str (z ++ (" " : Str))]) := kz _ _ (fun c => hbz _ c (g2.none (U49.free n50))) (gr.keep _ _ (fun c => (p2.same U49).ne (c ▸ n50)) (V50 _ _ et48))
  have al : DqAll K Hz [.non, .bl true, .int 0, .int 7, .str "letter", .str "day", .str "", .ref l1, .ref d2, .ref t3, .ref l4, .ref l5, .ref t7, .ref t8, .ref t9, .ref t10, .ref t11, .ref t12, .ref t14, .ref t17, .ref t18, .ref t21, .ref t22, .ref t23, .ref t24, .ref t25, .ref t26, .ref t29, .ref t30, .ref t32, .ref t34, .ref t35, .ref t38, .ref t39, .ref t40, .ref t41, .ref t42, .ref t44, .ref t47, .ref t48] (badL z odd (z ++ (" " : Str))) := (.cons (.of .non) (.cons (.of (.bl _)) (.cons (.of (.int _)) (.cons (.of (.int _)) (.cons (.of (.str _)) (.cons (.of (.str _)) (.cons (.of (.str _)) (.cons (.of (.lst (.inl (.inl E_l1)) .nil)) (.cons (.dct E_d2) (.cons (.of (.tup (.inl (.inl E_t3)) .nil)) (.cons (.of (.lst (.inl (.inl E_l4)) (.cons (.str _) .nil))) (.cons (.of (.lst (.inl (.inl E_l5)) (.cons (.str _) (.cons (.str _) .nil)))) (.cons (.of (.tup (.inl (.inl E_t7)) (.cons (.str _) (.cons (.str _) .nil)))) (.cons (.of (.tup (.inl (.inl E_t8)) (.cons (.str _) .nil))) (.cons (.of (.tup (.inl (.inl E_t9)) (.cons (.str _) .nil))) (.cons (.of (.tup (.inl (.inl E_t10)) (.cons (.str _) .nil))) (.cons (.of (.tup (.inl (.inl E_t11)) (.cons .non .nil))) (.cons (.of (.tup (.inl (.inl E_t12)) (.cons (.bl _) .nil))) (.cons (.of (.tup (.inl (.inl E_t14)) (.cons (.tup (.inl (.inl E_t13)) (.cons (.str _) .nil)) .nil))) (.cons (.of (.tup (.inl (.inl E_t17)) (.cons (.str _) .nil))) (.cons (.of (.tup (.inl (.inl E_t18)) (.cons (.str _) .nil))) (.cons (.of (.tup (.inl (.inl E_t21)) (.cons (.str _) .nil))) (.cons (.of (.tup (.inl (.inl E_t22)) (.cons (.str _) (.cons (.bl _) .nil)))) (.cons (.of (.tup (.inl (.inl E_t23)) (.cons (.str _) (.cons (.int _) .nil)))) (.cons (.of (.tup (.inl (.inl E_t24)) (.cons (.str _) .nil))) (.cons (.of (.tup (.inl (.inl E_t25)) (.cons (.str _) .nil))) (.cons (.of (.tup (.inl (.inl E_t26)) (.cons (.str _) (.cons (.str _) .nil)))) (.cons (.of (.tup (.inl (.inl E_t29)) (.cons (.str _) (.cons (.str _) .nil)))) (.cons (.of (.tup (.inl (.inl E_t30)) (.cons (.str _) (.cons .non .nil)))) (.cons (.of (.tup (.inl (.inl E_t32)) (.cons (.str _) (.cons (.lst (.inl (.inl E_l31)) (.cons (.str _) .nil)) .nil)))) (.cons (.of (.tup (.inl (.inl E_t34)) (.cons (.str _) (.cons (.tup (.inl (.inl E_t33)) (.cons (.str _) .nil)) .nil)))) (.cons (.of (.tup (.inl (.inl E_t35)) (.cons (.str _) (.cons (.str _) (.cons (.str _) .nil))))) (.cons (.of (.tup (.inl (.inl E_t38)) (.cons (.str _) .nil))) (.cons (.of (.tup (.inl (.inl E_t39)) (.cons (.str _) (.cons (.str _) .nil)))) (.cons (.of (.tup (.inl (.inl E_t40)) (.cons (.str _) (.cons (.str _) .nil)))) (.cons (.of (.tup (.inl (.inl E_t41)) (.cons (.str _) (.cons .non .nil)))) (.cons (.of (.tup (.inl (.inl E_t42)) (.cons (.str _) (.cons (.bl _) .nil)))) (.cons (.of (.tup (.inl (.inl E_t44)) (.cons (.str _) (.cons (.tup (.inl (.inl E_t43)) .nil) .nil)))) (.cons (.of (.tup (.inl (.inl E_t47)) (.cons (.str _) (.cons (.str _) (.cons (.str _) .nil))))) (.cons (.of (.tup (.inl (.inl E_t48)) (.cons (.str _) (.cons (.str _) .nil)))) .nil))))))))))))))))))))))))))))))))))))))))
  obtain ⟨d2, e2, h2⟩ := dqs_get al hx
  rw [hd] at e2
  cases e2
  exact h2
/-- what is told of a refusal -/
def dueD : ChkR → PyData
  | .ok => .none
  | .noDeed i => .tuple [.str "deed", .int (i : Nat), .bool false, .bool false, .bool true]
  | .noTicket => .tuple [.str "ticket", .int 0, .bool false, .bool true, .bool true]
def spRefused (K : PySem.W.Frag) (Z : Ad) : Sp := fun vs H Q _ => ∃ (k : Int) (ba : Addr) (v : V) (d : PyData) (dsk : List Str) (rs : List PyData), vs = [.int k, .ref ba, v] ∧ BookIs K Z.Book H (.ref ba) dsk rs ∧ Dt K H v d ∧ okDeeds d ∧ (∀ q, checkD dsk d = .ok → q) ∧
  ∀ y H', Same H H' → Dp K H' y (dueD (checkD dsk d)) → Q y H'
theorem told_e {H1 : Hp} {dd a0 C N : Addr} {u : V} {i : Int} {wd : Str} {b2 : Bool} {Q : VK} (hdd : H1 dd = some (.xd [("index", u)])) (hu : Dp K H1 u (.int i)) (k2 : PySem.W.kitOne K (.ref C) (.ref N) = some b2) (k3 : PySem.W.kitOne K (.ref C) (.type "ValueError") = some true)
    (q : ∀ y H2, Same H1 H2 → Dp K H2 y (.tuple [.str wd, .int i, .bool false, .bool b2, .bool true]) → Q y H2) :
    ∃ x, H1 dd = some (HO.xd x) ∧ ∃ x1, List.lookup (Str.ofString "index") x = some x1 ∧ rIsi K [x1, V.ty "bool"] H1 fun x H1 => rIsX K C a0 (Value.ref C) (some dd) [V.ref a0, V.ref N] H1 fun x2 H1 => rIsX K C a0 (Value.ref C) (some dd) [V.ref a0, V.ty "ValueError"] H1 fun x3 H1 =>
      3 ≤ sizeLine ∧ ∀ (p : Addr), H1 p = none → ∃ x4, upd H1 p (HO.tup [x, x2, x3]) dd = some (HO.xd x4) ∧ ∃ x5, List.lookup (Str.ofString "index") x4 = some x5 ∧ 2 ≤ sizeLine ∧ ∀ (p1 : Addr), upd H1 p (HO.tup [x, x2, x3]) p1 = none →
        rAddU K (V.ref p1) (V.ref p) (upd (upd H1 p (HO.tup [x, x2, x3])) p1 (HO.tup [V.str wd, x5])) fun x H1 => Q x H1 := by
  refine ⟨_, hdd, u, by simp [List.lookup], ?_⟩
  refine isi_dp hu ?_
  refine ⟨_, _, _, rfl, rfl, .own _, k2, ⟨_, _, rfl, hdd⟩, ?_⟩
  refine ⟨_, _, _, rfl, rfl, .ty _, k3, ⟨_, _, rfl, hdd⟩, by decide +kernel, ?_⟩
  walk_at "lay"
  rename_i p2 H2 s2 n2 e2
  refine ⟨_, s2 _ _ hdd, u, by simp [List.lookup], by decide +kernel, ?_⟩
  walk_at "lay"
  rename_i p3 H3 s3 n3 e3
  refine cat_dp (r1 := [.str wd, .int i]) (r2 := [.bool false, .bool b2, .bool true]) (.tup (.inl (.inl e3)) (.cons (.str _) (.cons (dpSame (s2.trans s3) hu) .nil))) (.tup (.inl (.inl (s3 _ _ e2))) (.cons (.bl _) (.cons (.bl _) (.cons (.bl _) .nil)))) (by simp) (by simp) fun y H4 s4 d4 => ?_
  exact q y H4 ((s2.trans s3).trans s4) d4
theorem d__law_refused (T : TX P K mg Z) : DefOk P w K mg base "_law_refused" ["way", "work", "acts"] 17 (spRefused K Z) := by
  refine T.f__law_refused.ok sc__law_refused (by rintro _ _ _ _ ⟨_, _, _, _, _, _, rfl, _⟩; rfl) fun f cdv A outer s H vs Q E hr h => ?_
  obtain ⟨k, ba, v, d, dsk, rs, rfl, bk, hv, ok, bad, q⟩ := h
  refine ⟨_, (pss_cons (ps_set (i := 3) sc__law_refused.nd rfl (by first | exact Or.inl rfl | exact Or.inr rfl) pe_non) (pss_cons (ps_try_mix rfl rfl takes0 (fun W pn xe tk _ => (pss_one (ps_if (pt_cmpR (kEq (K := K) hr.units) (pv 0) pe_int (nomark _)) (pss_one (ps_expr (pe_callSO (d_play T) hr rfl (fun σ => passAt tk σ) (pa_cons (pv 1) (pa_cons (pv 2) pa_nil))))) (pss_one (ps_expr (pe_callSO (d_faults T) hr rfl (fun σ => passAt tk σ) (pa_cons (pv 1) (pa_cons (pv 2) pa_nil)))))))) (MixOk.named (i := 4) sc__law_refused.nd rfl rfl ⟨rfl, by decide, Or.inl T.c_NoDeed⟩ (fun a oe cls d pn hz hf => (pss_cons (ps_set (i := 5) sc__law_refused.nd rfl (by first | exact Or.inl rfl | exact Or.inr rfl) (pe_tup (pa_cons (pe_callB (kIsi (K := K)) (by rfl) T.b_isinstance (by decide +kernel) (pa_cons (pe_xf (C := Z.NoDeed) ⟨T.x_NoDeed.ga, T.x_NoDeed.gg, T.x_NoDeed.exC, T.x_NoDeed.hdC⟩ T.x_NoDeed.noN hz hf (pv 4) rfl) (pa_cons (pe_ty (n := "bool") T.b_bool) pa_nil))) (pa_cons (pe_callB (call_isX T.q_NoDeed hz hf) (by rfl) T.b_isinstance (by decide +kernel) (pa_cons (pv 4) (pa_cons (pe_globR rfl T.c_NoTicket) pa_nil))) (pa_cons (pe_callB (call_isX T.q_NoDeed hz hf) (by rfl) T.b_isinstance (by decide +kernel) (pa_cons (pv 4) (pa_cons (pe_ty (n := "ValueError") T.b_ValueError) pa_nil))) pa_nil))))) (pss_one (ps_set (i := 3) sc__law_refused.nd rfl (by first | exact Or.inl rfl | exact Or.inr rfl) (pe_op (kAdd (K := K)) (pe_tup (pa_cons pe_str (pa_cons (pe_xf (C := Z.NoDeed) ⟨T.x_NoDeed.ga, T.x_NoDeed.gg, T.x_NoDeed.exC, T.x_NoDeed.hdC⟩ T.x_NoDeed.noN hz hf (pv 4) rfl) pa_nil))) (pv 5)))))) (MixOk.named (i := 4) sc__law_refused.nd rfl rfl ⟨rfl, by decide, Or.inl T.c_NoTicket⟩ (fun a oe cls d pn hz hf => (pss_cons (ps_set (i := 5) sc__law_refused.nd rfl (by first | exact Or.inl rfl | exact Or.inr rfl) (pe_tup (pa_cons (pe_callB (kIsi (K := K)) (by rfl) T.b_isinstance (by decide +kernel) (pa_cons (pe_xf (C := Z.NoTicket) ⟨T.x_NoTicket.ga, T.x_NoTicket.gg, T.x_NoTicket.exC, T.x_NoTicket.hdC⟩ T.x_NoTicket.noN hz hf (pv 4) rfl) (pa_cons (pe_ty (n := "bool") T.b_bool) pa_nil))) (pa_cons (pe_callB (call_isX T.q_NoTicket hz hf) (by rfl) T.b_isinstance (by decide +kernel) (pa_cons (pv 4) (pa_cons (pe_globR rfl T.c_DeskError) pa_nil))) (pa_cons (pe_callB (call_isX T.q_NoTicket hz hf) (by rfl) T.b_isinstance (by decide +kernel) (pa_cons (pv 4) (pa_cons (pe_ty (n := "ValueError") T.b_ValueError) pa_nil))) pa_nil))))) (pss_one (ps_set (i := 3) sc__law_refused.nd rfl (by first | exact Or.inl rfl | exact Or.inr rfl) (pe_op (kAdd (K := K)) (pe_tup (pa_cons pe_str (pa_cons (pe_xf (C := Z.NoTicket) ⟨T.x_NoTicket.ga, T.x_NoTicket.gg, T.x_NoTicket.exC, T.x_NoTicket.hdC⟩ T.x_NoTicket.noN hz hf (pv 4) rfl) pa_nil))) (pv 5)))))) MixOk.nil))) (pss_one (ps_ret (pv 3))))), ?_⟩
  walk_at "rn"
  by_cases c : k = 0
  · rw [if_pos (decide_eq_true c)]
    refine ⟨ba, v, d, dsk, rs, rfl, bk, hv, ok, ?_⟩
    cases hc : checkD dsk d with
    | ok => exact bad _ hc
    | noDeed i =>
      rw [hc] at q
      intro H1 dd u s1 hdd hu
      refine ⟨true, T.m_NoDeed, fun _ a0 _ => ?_, fun z => Bool.noConfusion z⟩
      walk_at "rn"
      exact told_e hdd hu T.ki_NoDeed_NoTicket T.ki_NoDeed_ValueError fun y H2 s2 dy => q y H2 (s1.trans s2) dy
    | noTicket =>
      rw [hc] at q
      intro H1 dd u s1 hdd hu
      refine ⟨false, T.n_NoTicket_NoDeed, fun z => Bool.noConfusion z, fun _ => ⟨true, T.m_NoTicket, fun _ a0 _ => ?_, fun z => Bool.noConfusion z⟩⟩
      walk_at "rn"
      exact told_e hdd hu T.ki_NoTicket_DeskError T.ki_NoTicket_ValueError fun y H2 s2 dy => q y H2 (s1.trans s2) dy
  · rw [if_neg (by simpa using c)]
    refine ⟨ba, v, d, dsk, rs, rfl, bk, hv, ok, ?_⟩
    cases hc : checkD dsk d with
    | ok => exact bad _ hc
    | noDeed i =>
      rw [hc] at q
      intro H1 dd u s1 hdd hu
      refine ⟨true, T.m_NoDeed, fun _ a0 _ => ?_, fun z => Bool.noConfusion z⟩
      walk_at "rn"
      exact told_e hdd hu T.ki_NoDeed_NoTicket T.ki_NoDeed_ValueError fun y H2 s2 dy => q y H2 (s1.trans s2) dy
    | noTicket =>
      rw [hc] at q
      intro H1 dd u s1 hdd hu
      refine ⟨false, T.n_NoTicket_NoDeed, fun z => Bool.noConfusion z, fun _ => ⟨true, T.m_NoTicket, fun _ a0 _ => ?_, fun z => Bool.noConfusion z⟩⟩
      walk_at "rn"
      exact told_e hdd hu T.ki_NoTicket_DeskError T.ki_NoTicket_ValueError fun y H2 s2 dy => q y H2 (s1.trans s2) dy
/-- caught by the base's name -/
def spBase (K : PySem.W.Frag) (Z : Ad) : Sp := fun vs H Q _ => ∃ (ba : Addr) (v : V) (d : PyData) (dsk : List Str) (rs : List PyData) (i : Nat), vs = [.ref ba, v] ∧ BookIs K Z.Book H (.ref ba) dsk rs ∧ Dt K H v d ∧ okDeeds d ∧ checkD dsk d = .noDeed i ∧ ∀ H', Same H H' → Q (.bl true) H'
theorem d__law_any_base (T : TX P K mg Z) : DefOk P w K mg base "_law_any_base" ["work", "acts"] 17 (spBase K Z) := by
  refine T.f__law_any_base.ok sc__law_any_base (by rintro _ _ _ _ ⟨_, _, _, _, _, _, rfl, _⟩; rfl) fun f cdv A outer s H vs Q E hr h => ?_
  obtain ⟨ba, v, d, dsk, rs, i, rfl, bk, hv, ok, hc, q⟩ := h
  refine ⟨_, (pss_cons (ps_set (i := 2) sc__law_any_base.nd rfl (by first | exact Or.inl rfl | exact Or.inr rfl) pe_bl) (pss_cons (ps_try_as (i := 3) rfl rfl sc__law_any_base.nd rfl rfl ⟨rfl, by decide, Or.inl T.c_DeskError⟩ takes0 (fun W pn xe tk _ => (pss_one (ps_expr (pe_callSO (d_play T) hr rfl (fun σ => passAt tk σ) (pa_cons (pv 0) (pa_cons (pv 1) pa_nil)))))) (fun a oe cls d pn hz hf => (pss_one (ps_set (i := 2) sc__law_any_base.nd rfl (by first | exact Or.inl rfl | exact Or.inr rfl) (pe_callB (call_isX T.q_NoDeed hz hf) (by rfl) T.b_isinstance (by decide +kernel) (pa_cons (pv 3) (pa_cons (pe_globR rfl T.c_NoDeed) pa_nil))))))) (pss_one (ps_ret (pv 2))))), ?_⟩
  walk_at "rn"
  refine ⟨ba, v, d, dsk, rs, rfl, bk, hv, ok, ?_⟩
  rw [hc]
  intro H1 dd u s1 hdd hu
  refine ⟨true, T.n_NoDeed_DeskError, fun _ a0 _ => ?_, fun z => Bool.noConfusion z⟩
  walk_at "rn"
  exact ⟨_, _, _, rfl, rfl, .own _, T.ki_NoDeed_NoDeed, ⟨_, _, rfl, hdd⟩, q H1 s1⟩
theorem due_flat (c : ChkR) : tpD 1 (dueD c) ∧ layD 1 (dueD c) := by
  cases c with
  | ok => exact ⟨rfl, trivial⟩
  | noDeed i =>
    refine ⟨fun e m => ?_, fun e m => ?_⟩ <;> (simp only [List.mem_cons, List.not_mem_nil, or_false] at m; rcases m with rfl | rfl | rfl | rfl | rfl) <;> first | rfl | trivial | (show PyData.strOk _ = true; decide +kernel)
  | noTicket =>
    refine ⟨fun e m => ?_, fun e m => ?_⟩ <;> (simp only [List.mem_cons, List.not_mem_nil, or_false] at m; rcases m with rfl | rfl | rfl | rfl | rfl) <;> first | rfl | trivial | (show PyData.strOk _ = true; decide +kernel)
/-- both functions raise it, in either order -/
def spBoth (K : PySem.W.Frag) (Z : Ad) : Sp := fun vs H Q _ => ∃ (ba : Addr) (v u : V) (d : PyData) (dsk : List Str) (rs : List PyData), vs = [.ref ba, v, u] ∧ BookIs K Z.Book H (.ref ba) dsk rs ∧ Dt K H v d ∧ okDeeds d ∧ (∀ q, checkD dsk d = .ok → q) ∧ Dp K H u (dueD (checkD dsk d)) ∧ ∀ H', Same H H' → Q (.bl true) H'
theorem d__law_both (T : TX P K mg Z) : DefOk P w K mg base "_law_both" ["work", "acts", "due"] 18 (spBoth K Z) := by
  refine T.f__law_both.ok sc__law_both (by rintro _ _ _ _ ⟨_, _, _, _, _, _, rfl, _⟩; rfl) fun f cdv A outer s H vs Q E hr h => ?_
  obtain ⟨ba, v, u, d, dsk, rs, rfl, bk, hv, ok, bad, hu, q⟩ := h
  refine ⟨_, (pss_cons (ps_setLc (i := 3) (own := [("way", 4)]) rfl sc__law_both.nd rfl rfl (sw_true rfl rfl rfl (by decide +kernel)) (kSeq (K := K) (pe_tup (pa_cons pe_int (pa_cons pe_int (pa_cons pe_int (pa_cons pe_int pa_nil)))))) (blkOk_by (N := ["work", "acts", "due", "ways", "way", "found"]) (sc := defScope s__law_both) (own := [("way", 4)]) (by decide +kernel)) (fun _ _ _ _ _ => (pg_name (i := 4) sc__law_both.nd rfl (by first | exact Or.inl rfl | exact Or.inr rfl))) (fun _ _ _ _ _ => pts_nil) (fun _ _ _ _ _ => (pe_callD (d__law_refused T) hr rfl passL (pa_cons (pv 4) (pa_cons (pv 0) (pa_cons (pv 1) pa_nil)))))) (pss_one (ps_ret (pe_cmpR (kEq (K := K) hr.units) (pe_lc (own := [("found", 5)]) rfl sc__law_both.nd (kSeq (K := K) (pv 3)) (blkOk_by (N := ["work", "acts", "due", "ways", "way", "found"]) (sc := defScope s__law_both) (own := [("found", 5)]) (by decide +kernel)) (fun _ _ _ _ _ => (pg_name (i := 5) sc__law_both.nd rfl (by first | exact Or.inl rfl | exact Or.inr rfl))) (fun _ _ _ _ _ => (pts_one (pt_cmpR (kNe (K := K) hr.units) (pv 5) (pv 2) (nomark _)))) (fun _ _ _ _ _ => (pv 5))) (pe_lst pa_nil) (nomark _))))), ?_⟩
  walk_at "rn"
  refine lc_t ?_
  walk_at "rn"
  refine ⟨by decide +kernel, ?_⟩
  walk_at "lay"
  rename_i t1 H1 s1 n1 e1
  have dt : Dp K H1 (.ref t1) (.tuple [.int 0, .int 1, .int 1, .int 0]) := .tup (.inl (.inl e1)) (.cons (.int _) (.cons (.int _) (.cons (.int _) (.cons (.int _) .nil))))
  refine lcMapT 1 (fun _ => dueD (checkD dsk d)) dt (by rw [sizeLine_eq]; simp) (fun _ _ => (due_flat _).1) ?_ ?_
  · intro i x e H2 N hi s2 dx nt
    obtain ⟨k, rfl⟩ : ∃ k, x = .int k := by
      have m := List.mem_of_getElem? hi
      simp only [List.mem_cons, List.not_mem_nil, or_false] at m
      rcases m with rfl | rfl | rfl | rfl <;> (cases dx; exact ⟨_, rfl⟩)
    walk_at "rn"
    exact ⟨k, ba, v, d, dsk, rs, rfl, bk.same (s1.trans s2), hv.same (s1.trans s2), ok, bad, fun y H3 s3 dy => nt y H3 s3 dy⟩
  · intro D H2 ys n2 s2 e2 dy
    refine lc_l ?_
    walk_at "rn"
    have dl : Dp K H2 (.ref D) (.list ([PyData.int 0, .int 1, .int 1, .int 0].map fun _ => dueD (checkD dsk d))) := .lst (.inl (.inl e2)) dy
    have hu2 := dpSame (s1.trans s2) hu
    refine lcFil dl (by rw [sizeLine_eq]; simp) (fun _ => false) ?_ ?_
    · intro i x e H3 N hi s3 dx n0 _
      have ee : e = dueD (checkD dsk d) := by
        have m := List.mem_of_getElem? hi
        simp only [List.map_cons, List.map_nil, List.mem_cons, List.not_mem_nil, or_false, or_self] at m
        exact m
      subst ee
      walk_at "rn"
      obtain ⟨a, rfl⟩ : ∃ a, x = .ref a := by
        cases hc : checkD dsk d with
        | ok => exact bad _ hc
        | noDeed i => rw [hc] at dx; obtain ⟨a, _, rfl, _⟩ := dp_tup dx; exact ⟨a, rfl⟩
        | noTicket => rw [hc] at dx; obtain ⟨a, _, rfl, _⟩ := dp_tup dx; exact ⟨a, rfl⟩
      refine ne_same dx (dpSame s3 hu2) (due_flat _).2 (by decide) ?_
      exact ⟨_, rfl, by rw [if_neg (by decide)]; exact n0 H3 (Same.refl H3) rfl⟩
    · intro D2 H3 n3 s3 dd
      rw [show (([PyData.int 0, .int 1, .int 1, .int 0].map fun _ => dueD (checkD dsk d)).filter fun _ => false) = [] by simp] at dd
      refine ⟨by decide +kernel, ?_⟩
      walk_at "lay"
      rename_i p4 H4 s4 n4 e4
      refine eq_nil (n := 1) (dpSame s4 dd) (.lst (.inl (.inl e4)) .nil) (fun _ m => nomatch m) (by decide) ?_
      exact q H4 (((s1.trans s2).trans s3).trans s4)
theorem ix_dlP {H : Hp} {v : V} {ds : List PyData} {d : PyData} {i : Nat} {Q : VK} (h : Dp K H v (.list ds)) (e : ds[i]? = some d) (q : ∀ u, Dp K H u d → Q u H) : rIxU K v (.int (i : Nat)) H Q := by
  obtain ⟨a, xs, rfl, sx, dx⟩ := dp_lst h
  have l := dps_len dx
  have hi := (List.getElem?_eq_some_iff.mp e).1
  obtain ⟨x, hx⟩ : ∃ x, xs[i]? = some x := ⟨_, List.getElem?_eq_getElem (by omega)⟩
  obtain ⟨d', h1, h2⟩ := dps_get dx hx
  rw [e] at h1
  cases h1
  exact ix_l sx (atI_nat hx) (q x h2)
def oddsS : List Str := ["a", "bb", "ccc", "dddd", "eeeeeeee"]
def offD (zs : List Str) : PyData → Bool
  | .str z => !zs.any fun y => y == z
  | _ => false
theorem odd_left {zs : List Str} (h : zs.length ≤ 4) : ∃ z r, (oddsS.map PyData.str).filter (offD zs) = .str z :: r ∧ z ∉ zs := by
  rw [List.filter_map]
  cases e : oddsS.filter (offD zs ∘ PyData.str) with
  | nil =>
    have all : ∀ z ∈ oddsS, z ∈ zs := fun z hz => by
      have no : ¬ (!zs.any fun y => y == z) = true := List.filter_eq_nil_iff.mp e z hz
      simp only [Bool.not_eq_true, Bool.not_eq_false', List.any_eq_true, beq_iff_eq] at no
      obtain ⟨y, hy, rfl⟩ := no
      exact hy
    have := nodup_le (by decide +kernel : oddsS.Nodup) all
    have e5 : oddsS.length = 5 := rfl
    omega
  | cons z r =>
    have hz : z ∈ oddsS.filter (offD zs ∘ PyData.str) := by rw [e]; exact List.mem_cons_self
    have h2 : (!zs.any fun y => y == z) = true := (List.mem_filter.mp hz).2
    refine ⟨z, r.map PyData.str, rfl, fun hm => ?_⟩
    simp only [Bool.not_eq_true', List.any_eq_false, beq_iff_eq] at h2
    exact h2 z hm rfl
/-- what was drawn and told first -/
structure S27 (K : PySem.W.Frag) (Z : Ad) (H : Hp) (da ba la : Addr) (vr gv wv : V) (dsk : List Str) (rs ds : List PyData) : Prop where
  sd : SqT K H da (dsk.map V.str)
  rd : Dp K H vr (.tuple rs)
  bk : BookIs K Z.Book H (.ref ba) dsk rs
  el : ∃ vs, H la = some (.lst vs) ∧ DpAll K H vs ds
  gd : Dp K H gv (.list (playT rs dsk ds))
  wd : Dp K H wv (.list ((wrongT rs dsk ds).map faultD))
theorem NLs.gr1 {H H' : Hp} {p : Addr} {n : Nat} (pt : PotAt H p n) (g : Gr p H H') : NLs H H' := fun b o e nl => g.keep b o (fun m => by
  obtain ⟨x, y, z, e2, _⟩ := pt
  rw [m, e2] at e
  cases e
  exact nl) e
/-- first a desk and deeds were drawn, and play and faults asked -/
structure C27 (K : PySem.W.Frag) (Z : Ad) (Hb : Hp) (p da ba la : Addr) (vr gv wv : V) (odd : Str) (dsk : List Str) (rs ds : List PyData) : Prop where
  st : ∀ H', Gr p Hb H' → S27 K Z H' da ba la vr gv wv dsk rs ds
  ad : areDesksD (.tuple (dsk.map PyData.str)) = true
  odn : odd ∉ dsk
  gb : goodBook dsk rs
  al : ∀ d ∈ ds, isDeedD dsk d = true
  few : ds.length ≤ 14
  hd : headW ds = true
  nlap : la ≠ p
theorem firstWrong_at {dsk : List Str} {d : PyData} {rest : List PyData} (h : isDeedD dsk d = false) : ∀ (gs : List PyData) (i : Nat), (∀ g ∈ gs, isDeedD dsk g = true) → firstWrong dsk i (gs ++ d :: rest) = some (i + gs.length)
  | [], i, _ => by
    show (if isDeedD dsk d = true then _ else _) = _
    rw [h]
    rfl
  | g :: gs, i, al => by
    show (if isDeedD dsk g = true then firstWrong dsk (i + 1) (gs ++ d :: rest) else some i) = _
    rw [if_pos (al g List.mem_cons_self), firstWrong_at h gs (i + 1) fun e m => al e (List.mem_cons_of_mem _ m)]
    congr 1
    simp only [List.length_cons]
    omega
theorem check_bad {dsk : List Str} {d : PyData} {gs rest : List PyData} (h : isDeedD dsk d = false) (al : ∀ g ∈ gs, isDeedD dsk g = true) : checkD dsk (.list (gs ++ d :: rest)) = .noDeed gs.length := by
  unfold checkD
  rw [show wrongD dsk (.list (gs ++ d :: rest)) = some gs.length from by
    show firstWrong dsk 0 _ = _
    rw [firstWrong_at h gs 0 al, Nat.zero_add]]
theorem check_tick {dsk : List Str} {o : PyData} {ds : List PyData} (h : isDeedD dsk o = true) (nl : headW [o] = false) (al : ∀ g ∈ ds, isDeedD dsk g = true) : checkD dsk (.list (o :: ds)) = .noTicket := by
  unfold checkD
  rw [show wrongD dsk (.list (o :: ds)) = none from firstWrong_good _ 0 fun e m => by
    rcases List.mem_cons.mp m with rfl | m
    · exact h
    · exact al e m]
  have e : headW (o :: ds) = headW [o] := by
    cases o with
    | tuple xs =>
      cases xs with
      | nil => rfl
      | cons x y => cases x <;> rfl
    | _ => rfl
  show (if headW (o :: ds) = true then ChkR.ok else ChkR.noTicket) = _
  rw [e, nl]
  rfl
theorem bad_short {desk odd sp : Str} : ∀ d ∈ badL desk odd sp, okForm d := by
  intro d m xs e
  simp only [badL, List.mem_cons, List.not_mem_nil, or_false] at m
  rcases m with rfl | rfl | rfl | rfl | rfl | rfl | rfl | rfl | rfl | rfl | rfl | rfl | rfl | rfl | rfl | rfl | rfl | rfl | rfl | rfl | rfl | rfl | rfl | rfl | rfl | rfl | rfl | rfl | rfl | rfl | rfl | rfl | rfl | rfl | rfl | rfl | rfl | rfl | rfl | rfl
  all_goals (cases e <;> simp)
theorem Gr.putN {p r : Addr} {H H' : Hp} {o : HO} (g : Gr p H H') (n : H r = Option.none) (ne : r ≠ p) : Gr p H (upd H' r o) := ⟨fun b u nb e => by
  rw [upd_ne (ne_of_none e n)]
  exact g.keep b u nb e, fun z => by
  rw [upd_ne (Ne.symm ne)]
  exact g.ne z⟩
theorem PotAt.putN {p r : Addr} {H : Hp} {n : Nat} {o : HO} (h : PotAt H p n) (ne : r ≠ p) : PotAt (upd H r o) p n := by
  obtain ⟨a, b, c, e, x⟩ := h
  exact ⟨a, b, c, by rw [upd_ne (Ne.symm ne)]; exact e, x⟩
theorem ne_sameD {H : Hp} {Q : VK} {v u : V} {d : PyData} {n : Nat} (h : Dp K H v d) (g : Dp K H u d) (l : layD n d) (hn : n ≤ 64) (q : Q (.bl false) H) : rNeD K v u H Q := ⟨d, d, h, g, l.shaped hn, l.shaped hn, by rw [l.refl]; exact q⟩
theorem ix_lastT {H : Hp} {Q : VK} {da : Addr} {dsk : List Str} (h : SqT K H da (dsk.map V.str)) (l : 1 ≤ dsk.length) (q : ∀ z ∈ dsk, Q (.str z) H) : rIxU K (.ref da) (.int (-1)) H Q := by
  rcases List.eq_nil_or_concat dsk with rfl | ⟨i, z, rfl⟩
  · simp at l
  · exact ix_t h (by rw [List.concat_eq_append, List.map_append]; exact atI_last _ _) (q z (by simp))
def spR27 (K : PySem.W.Frag) : Sp := fun vs H Q _ => ∃ p, vs = [V.ref p] ∧ PotAt H p 0 ∧ ∀ H', Gr p H H' → Q (.bl true) H'
theorem d__law_right (T : TX P K mg Z) : DefOk P w K mg base "_law_right" ["pot"] 22 (spR27 K) := by
  refine T.f__law_right.ok sc__law_right (by rintro _ _ _ _ ⟨_, rfl, _⟩; rfl) fun f cdv A outer s H vs Q E hr h => ?_
  obtain ⟨p, rfl, hp, q⟩ := h
  obtain ⟨t12, h12, m12⟩ : ∃ t12, PSs (cxOf (L2.CX P w) P w K mg base ["pot", "desks", "odd", "name", "many", "rules", "k", "work", "acts", "good", "wrong", "spot", "row", "some", "other", "wrong_kinds"] "_law_right" (defScope s__law_right) f cdv A outer s H E) ((defBody s__law_right).drop 12) t12 ∧ ∀ (Hb Hr : Hp) (da ba la lr : Addr) (vr gv wv : V) (odd : Str) (dsk : List Str) (rs ds : List PyData) (many : Int) (sp n : Nat) (ys : List V) (d : PyData) (more : List PyData),
      C27 K Z Hb p da ba la vr gv wv odd dsk rs ds → Gr p H Hb → Gr p Hb Hr → PotAt Hb p n → PotAt Hr p n → n ≤ 2000 → Hr lr = some (.lst ys) → Hb lr = none → DqAll K Hr ys (ds.take sp ++ d :: more) → sp ≤ ds.length → isDeedD dsk d = false → more.length ≤ 20 → (∀ e ∈ ds.take sp ++ d :: more, okForm e) →
      t12 { nx := fun _ H' => Q .non H', rt := Q } [some (.ref p), some (.ref da), some (.str odd), none, some (.int many), some vr, none, some (.ref ba), some (.ref la), some gv, some wv, some (.int (sp : Nat)), some (.ref lr), none, none, none] Hr := by
    refine ⟨_, (pss_cons (ps_if (PW.pt (pw_or (pt_not (pt_val (pe_callD (d__law_both T) hr rfl passL (pa_cons (pv 7) (pa_cons (pv 12) (pa_cons (pe_tup (pa_cons pe_str (pa_cons (pv 11) (pa_cons pe_bl (pa_cons pe_bl (pa_cons pe_bl pa_nil)))))) pa_nil)))))) (pw_or1 (pt_not (pt_val (pe_callD (d__law_any_base T) hr rfl passL (pa_cons (pv 7) (pa_cons (pv 12) pa_nil)))))))) (pss_one (ps_ret pe_bl)) pss_nil) (pss_cons (ps_asg (pe_slice (kSl (K := K)) (pv 8) (po_some (pv 11)) po_none) (pg_tail (pv 12) (po_some (pv 11)))) (pss_cons (ps_if (PW.pt (pw_or (pt_cmpR (kNe (K := K) hr.units) (pv 12) (pv 8) (nomark _)) (pw_or (pt_cmpR (kNe (K := K) hr.units) (pe_callD (d_play T) hr rfl passL (pa_cons (pv 7) (pa_cons (pv 12) pa_nil))) (pv 9) (nomark _)) (pw_or1 (pt_cmpR (kNe (K := K) hr.units) (pe_callD (d_faults T) hr rfl passL (pa_cons (pv 7) (pa_cons (pv 12) pa_nil))) (pv 10) (nomark _)))))) (pss_one (ps_ret pe_bl)) pss_nil) (pss_cons (ps_set (i := 13) sc__law_right.nd rfl (by first | exact Or.inl rfl | exact Or.inr rfl) (pe_lst (pa_cons (pe_tup (pa_cons pe_str pa_nil)) (pa_cons (pe_tup (pa_cons pe_str pa_nil)) (pa_cons (pe_tup (pa_cons pe_str (pa_cons (pe_ix (kIx (K := K)) (pv 1) (pe_un un_neg pe_int) (fun _ _ => rfl)) pa_nil))) (pa_cons (pe_tup (pa_cons pe_str (pa_cons (pe_ix (kIx (K := K)) (pv 1) pe_int (fun _ _ => rfl)) pa_nil))) (pa_cons (pe_tup (pa_cons pe_str (pa_cons pe_str pa_nil))) pa_nil))))))) (pss_cons (ps_set (i := 14) sc__law_right.nd rfl (by first | exact Or.inl rfl | exact Or.inr rfl) (pe_ix (kIx (K := K)) (pv 13) (pe_callD (d__law_dip T) hr rfl passL (pa_cons (pv 0) (pa_cons pe_int pa_nil))) (fun _ _ => rfl))) (pss_cons (ps_set (i := 12) sc__law_right.nd rfl (by first | exact Or.inl rfl | exact Or.inr rfl) (pe_op (kAdd (K := K)) (pe_lst (pa_cons (pv 14) pa_nil)) (pv 8))) (pss_cons (ps_if (pt_not (pt_val (pe_callD (d__law_both T) hr rfl passL (pa_cons (pv 7) (pa_cons (pv 12) (pa_cons (pe_tup (pa_cons pe_str (pa_cons pe_int (pa_cons pe_bl (pa_cons pe_bl (pa_cons pe_bl pa_nil)))))) pa_nil)))))) (pss_one (ps_ret pe_bl)) pss_nil) (pss_cons (ps_expr (kBm (K := K) PySem.F.plainAttrs_list PySem.F.slot_list_append PySem.F.type_list_append mt_append (pv 12) (pa_cons (pe_callD (d__law_bad T) hr rfl passL (pa_cons (pv 0) (pa_cons (pv 1) (pa_cons (pv 2) pa_nil)))) pa_nil))) (pss_cons (ps_if (pt_not (pt_val (pe_callD (d__law_both T) hr rfl passL (pa_cons (pv 7) (pa_cons (pv 12) (pa_cons (pe_tup (pa_cons pe_str (pa_cons (pe_op op_sub (pe_callB (kLen (K := K)) (by rfl) T.b_len PySem.boot_len (pa_cons (pv 12) pa_nil)) pe_int) (pa_cons pe_bl (pa_cons pe_bl (pa_cons pe_bl pa_nil)))))) pa_nil)))))) (pss_one (ps_ret pe_bl)) pss_nil) (pss_cons (ps_set (i := 15) sc__law_right.nd rfl (by first | exact Or.inl rfl | exact Or.inr rfl) (pe_lst (pa_cons (pe_callTy (kTuple (K := K)) (by rfl) T.b_tuple (by decide +kernel) (pa_cons (pv 8) pa_nil)) (pa_cons pe_non (pa_cons pe_str (pa_cons pe_dnewK (pa_cons pe_bl (pa_cons pe_int (pa_cons (pe_tup pa_nil) (pa_cons (pe_tup (pa_cons pe_str pa_nil)) (pa_cons pe_str (pa_cons (pe_disp (pps_cons pe_str pe_int pps_nil) rfl rfl (by simp) (by decide)) pa_nil)))))))))))) (pss_cons (ps_if (pt_not (pt_val (pe_callD (d__law_both T) hr rfl passL (pa_cons (pv 7) (pa_cons (pe_ix (kIx (K := K)) (pv 15) (pe_callD (d__law_dip T) hr rfl passL (pa_cons (pv 0) (pa_cons pe_int pa_nil))) (fun _ _ => rfl)) (pa_cons (pe_tup (pa_cons pe_str (pa_cons pe_int (pa_cons pe_bl (pa_cons pe_bl (pa_cons pe_bl pa_nil)))))) pa_nil)))))) (pss_one (ps_ret pe_bl)) pss_nil) (pss_one (ps_ret (pe_and (pe_cmpR (kEq (K := K) hr.units) (pe_callD (d_play T) hr rfl passL (pa_cons (pv 7) (pa_cons (pv 8) pa_nil))) (pv 9) (nomark _)) (pe_and (pe_cmpR (kEq (K := K) hr.units) (pe_callD (d_faults T) hr rfl passL (pa_cons (pv 7) (pa_cons (pv 8) pa_nil))) (pv 10) (nomark _)) (pe_one (pe_cmpR (kEq (K := K) hr.units) (pe_methD0 (m_Book_rules T) hr (pv 7) passL) (pv 5) (nomark _)))))))))))))))))), fun Hb H0 da ba la lr vr gv wv odd dsk rs ds many sp n ys d more C g g0 pb p0 ln er nr dy lsp bd lm short => ?_⟩
    walk_at "rn"
    have nrp : lr ≠ p := fun c => pb.ne (c ▸ nr)
    have lt : (ds.take sp).length = sp := by rw [List.length_take]; omega
    have alt : ∀ e ∈ ds.take sp, isDeedD dsk e = true := fun e m => C.al e (List.mem_of_mem_take m)
    have ck : checkD dsk (.list (ds.take sp ++ d :: more)) = .noDeed sp := by rw [check_bad bd alt, lt]
    have lf := C.few
    have lall : (ds.take sp ++ d :: more).length ≤ 1000 := by rw [List.length_append, List.length_cons, lt]; omega
    have okd : okDeeds (.list (ds.take sp ++ d :: more)) := fun xs e => by
      injection e with e
      subst e
      exact ⟨lall, short⟩
    refine ⟨by decide +kernel, ?_⟩
    walk_at "lay"
    rename_i t1 H1 s1 n1 e1
    have g1 := g0.trans (Gr.of (p := p) s1)
    refine ⟨ba, .ref lr, .ref t1, _, dsk, rs, rfl, (C.st H1 g1).bk, .lst (.inl (.inl (s1 _ _ er))) (dy.same s1), okd, (fun q e => by rw [ck] at e; cases e), ?_, fun H2 s2 => ⟨_, rfl, ?_⟩⟩
    · rw [ck]
      exact .tup (.inl (.inl e1)) (.cons (.str _) (.cons (.int _) (.cons (.bl _) (.cons (.bl _) (.cons (.bl _) .nil)))))
    rw [if_neg (by decide)]
    have g2 := g1.trans (Gr.of (p := p) s2)
    have s02 := s1.trans s2
    refine ⟨ba, .ref lr, _, dsk, rs, sp, rfl, (C.st H2 g2).bk, .lst (.inl (.inl (s02 _ _ er))) (dy.same s02), okd, ck, fun H3 s3 => ⟨_, rfl, ?_⟩⟩
    rw [if_neg (by decide)]
    have s03 := s02.trans s3
    have g3 := g2.trans (Gr.of (p := p) s3)
    obtain ⟨vs, el3, dv3⟩ := (C.st H3 g3).el
    have lv := dps_len dv3
    refine sl_from (k := sp) (.inl (.inl el3)) (by omega) fun l4 H4 s4 n4 e4 => ?_
    unfold gTail
    walk_at "rn"
    have er4 := s4 _ _ (s03 _ _ er)
    have g4 := g3.trans (Gr.of (p := p) s4)
    have lys : ys.length = sp + 1 + more.length := by rw [dy.len, List.length_append, List.length_cons, lt]; omega
    refine ⟨_, _, sp, rfl, er4, e4, (fun c => by rw [c] at er; rw [s03 _ _ er] at n4; cases n4), by omega, by rw [List.length_drop, sizeLine_eq]; omega, ?_⟩
    have nl5 : NLs H4 (upd H4 lr (.lst (ys.take sp ++ vs.drop sp))) := NLs.put er4
    have g5 : Gr p Hb (upd H4 lr (.lst (ys.take sp ++ vs.drop sp))) := g4.putN nr nrp
    have p5 : PotAt (upd H4 lr (.lst (ys.take sp ++ vs.drop sp))) p n := ((p0.same s03).same s4).putN nrp
    have alD : ∀ d ∈ ds, DeedIs dsk d := fun d m => deed_of (C.al d m)
    have dr5 : Dp K (upd H4 lr (.lst (ys.take sp ++ vs.drop sp))) (.ref lr) (.list ds) := by
      have a := (dy.same (s03.trans s4)).take sp
      rw [List.take_left' lt] at a
      have a := dqs_dps a fun e m => (alD e (List.mem_of_mem_take m)).isTup
      have a := deeds_nls nl5 a fun e m => alD e (List.mem_of_mem_take m)
      have b := deeds_nls nl5 (dps_drop sp (dpsSame s4 dv3)) fun e m => alD e (List.mem_of_mem_drop m)
      have c := dps_append a b
      rw [List.take_append_drop] at c
      exact .lst (.inl (.inl upd_same)) c
    generalize upd H4 lr (.lst (ys.take sp ++ vs.drop sp)) = H5 at nl5 g5 p5 dr5 ⊢
    have lo := good_low C.gb
    have layA : layD 2 (.list ds) := deeds_lay lo C.al
    have layP : layD 3 (.list (playT rs dsk ds)) := reps_lay (turns_lay lo (good_d1 C.gb) (good_all C.gb) alD)
    have layF : layD 2 (.list ((wrongT rs dsk ds).map faultD)) := Stg.layF
    have S5 := C.st H5 g5
    have da5 : Dp K H5 (.ref la) (.list ds) := by
      obtain ⟨vs, e, dv⟩ := S5.el
      exact .lst (.inl (.inl e)) dv
    refine ne_sameD dr5 da5 layA (by decide) ⟨_, rfl, ?_⟩
    rw [if_neg (by decide)]
    refine play_good S5.bk dr5 (by omega) C.al (.inr C.hd) fun v6 H6 s6 f6 => ?_
    refine ne_dl f6.dp (dpSame s6 S5.gd) layP (by decide) ⟨_, rfl, ?_⟩
    rw [if_neg (by decide)]
    refine hist_good (S5.bk.same s6) (dpSame s6 dr5) (by omega) C.al (.inr C.hd) fun v7 H7 s7 f7 => ?_
    have s57 := s6.trans s7
    refine ne_dl f7.dp (dpSame s57 S5.wd) layF (by decide) ⟨_, rfl, ?_⟩
    rw [if_neg (by decide)]
    have p7 := p5.same s57
    have g7 := g5.trans (Gr.of (p := p) s57)
    have S7 := C.st H7 g7
    -- another deed than a letter
    refine ⟨by decide +kernel, ?_⟩
    walk_at "lay"
    rename_i t8 H8 s8 n8 e8
    refine ⟨by decide +kernel, ?_⟩
    walk_at "lay"
    rename_i t9 H9 s9 n9 e9
    refine ix_lastT (same_seqT (s8.trans s9) S7.sd) (good_d1 C.gb) fun z1 mz1 => ⟨by decide +kernel, ?_⟩
    walk_at "lay"
    rename_i t10 H10 s10 n10 e10
    have s710 := (s8.trans s9).trans s10
    refine ix_pickT (same_seqT s710 S7.sd) (by decide) (by have := good_d1 C.gb; omega) fun z2 mz2 => ⟨by decide +kernel, ?_⟩
    walk_at "lay"
    rename_i t11 H11 s11 n11 e11
    refine ⟨by decide +kernel, ?_⟩
    walk_at "lay"
    rename_i t12 H12 s12 n12 e12
    refine ⟨by decide +kernel, ?_⟩
    walk_at "lay"
    rename_i l13 H13 s13 n13 e13
    have s1013 := s11.trans (s12.trans s13)
    have s713 := s710.trans s1013
    have p13 := p7.same s713
    have g13 := g7.trans (Gr.of (p := p) s713)
    refine ⟨p, 5, n, rfl, p13, by omega, by decide, by decide, fun r H14 r0 r1 g14 p14 => ?_⟩
    have e13' := g14.keep _ _ (fun c => ((p7.same s710).same (s11.trans s12)).ne (c ▸ n13)) e13
    have nl14 := NLs.gr1 p13 g14
    obtain ⟨tx, od, hx, dx, isd, hno⟩ : ∃ tx od, atI [V.ref t8, V.ref t9, V.ref t10, V.ref t11, V.ref t12] r = some (.ref tx) ∧ Dp K H14 (.ref tx) od ∧ isDeedD dsk od = true ∧ headW [od] = false := by
      have a8 := nl14 _ _ ((s9.trans (s10.trans s1013)) _ _ e8) trivial
      have a9 := nl14 _ _ ((s10.trans s1013) _ _ e9) trivial
      have a10 := nl14 _ _ (s1013 _ _ e10) trivial
      have a11 := nl14 _ _ ((s12.trans s13) _ _ e11) trivial
      have a12 := nl14 _ _ (s13 _ _ e12) trivial
      rcases (show r = 0 ∨ r = 1 ∨ r = 2 ∨ r = 3 ∨ r = 4 by omega) with rfl | rfl | rfl | rfl | rfl
      · exact ⟨t8, .tuple [.str "answer"], rfl, .tup (.inl (.inl a8)) (.cons (.str _) .nil), rfl, by decide +kernel⟩
      · exact ⟨t9, .tuple [.str "day"], rfl, .tup (.inl (.inl a9)) (.cons (.str _) .nil), rfl, by decide +kernel⟩
      · exact ⟨t10, .tuple [.str "hand", .str z1], rfl, .tup (.inl (.inl a10)) (.cons (.str _) (.cons (.str _) .nil)), fe_hand mz1, by show decide (("hand" : Str) = "letter") = false; decide +kernel⟩
      · exact ⟨t11, .tuple [.str "hand", .str z2], rfl, .tup (.inl (.inl a11)) (.cons (.str _) (.cons (.str _) .nil)), fe_hand mz2, by show decide (("hand" : Str) = "letter") = false; decide +kernel⟩
      · exact ⟨t12, .tuple [.str "set", .str "new"], rfl, .tup (.inl (.inl a12)) (.cons (.str _) (.cons (.str _) .nil)), fe_set (by decide +kernel), by decide +kernel⟩
    refine ix_l (.inl (.inl e13')) hx ⟨by decide +kernel, ?_⟩
    walk_at "lay"
    rename_i l15 H15 s15 n15 e15
    have g15 := (g13.trans g14).trans (Gr.of (p := p) s15)
    have p15 := p14.same s15
    obtain ⟨vs15, ela15, dv15⟩ := (C.st H15 g15).el
    have lv15 := dps_len dv15
    refine cat_l e15 ela15 (by simp only [List.length_cons, List.length_nil]; omega) ?_
    walk_at "lay"
    rename_i lw H16 s16 n16 e16
    have p16 := p15.same s16
    have g16 := g15.trans (Gr.of (p := p) s16)
    have nwp : lw ≠ p := fun c => p15.ne (c ▸ n16)
    have dw16 : DpAll K H16 ([.ref tx] ++ vs15) (od :: ds) := .cons (dpSame (s15.trans s16) dx) (dpsSame s16 dv15)
    have cku : checkD dsk (.list (od :: ds)) = .noTicket := check_tick isd hno C.al
    have okf : ∀ e ∈ od :: ds, okForm e := fun e m => by
      rcases List.mem_cons.mp m with rfl | m
      · exact (deed_of isd).short
      · exact (alD e m).short
    have alw : ∀ e ∈ od :: ds, isDeedD dsk e = true := fun e m => by
      rcases List.mem_cons.mp m with rfl | m
      · exact isd
      · exact C.al e m
    refine ⟨by decide +kernel, ?_⟩
    walk_at "lay"
    rename_i t17 H17 s17 n17 e17
    have g17 := g16.trans (Gr.of (p := p) s17)
    refine ⟨ba, .ref lw, .ref t17, .list (od :: ds), dsk, rs, rfl, (C.st H17 g17).bk, Dt.dp (.lst (.inl (.inl (s17 _ _ e16))) (dpsSame s17 dw16)), (fun xs e => by
      injection e with e
      subst e
      exact ⟨by simp only [List.length_cons]; omega, okf⟩), (fun q e => by rw [cku] at e; cases e), ?_, fun H18 s18 => ⟨_, rfl, ?_⟩⟩
    · rw [cku]
      exact .tup (.inl (.inl e17)) (.cons (.str _) (.cons (.int _) (.cons (.bl _) (.cons (.bl _) (.cons (.bl _) .nil)))))
    rw [if_neg (by decide)]
    have s1618 := s17.trans s18
    have p18 := p16.same s1618
    have g18 := g16.trans (Gr.of (p := p) s1618)
    have e18 := s1618 _ _ e16
    refine ⟨.inl ⟨rfl, _, .inl (.inl e18)⟩, ?_⟩
    refine ⟨p, da, n + 1, dsk, odd, rfl, p18, by omega, (C.st H18 g18).sd, good_d1 C.gb, by have := C.ad; unfold areDesksD at this; simp only [Bool.and_eq_true, decide_eq_true_eq, List.length_map] at this; omega, fun z m => (desk_name C.ad m).2, fun x2 d2 z H19 mz2 m2 f2 g19 p19 => ?_⟩
    have e19 := g19.keep _ _ nwp e18
    have dw18 := dpsSame s1618 dw16
    have nl19 := NLs.gr1 p18 g19
    have dw19 := deeds_nls nl19 dw18 fun e m => deed_of (alw e m)
    have lw19 := dps_len dw19
    refine ⟨lw, _, x2, rfl, rfl, e19, by rw [lw19, sizeLine_eq]; simp only [List.length_cons]; omega, ?_⟩
    have bd2 : isDeedD dsk d2 = false := bad_not C.odn (fun m => by
      have a := (desk_name C.ad m).1
      have e : ("" : Str).length = 0 := by decide +kernel
      omega) (sp_off z) d2 m2
    have g1 := (g18.trans g19)
    have g20 : Gr p Hb (upd H19 lw (.lst ([V.ref tx] ++ vs15 ++ [x2]))) := g1.putN (g15.none n16) nwp
    have p20 : PotAt (upd H19 lw (.lst ([V.ref tx] ++ vs15 ++ [x2]))) p (n + 1 + 2) := p19.putN nwp
    have nl20 : NLs H19 (upd H19 lw (.lst ([V.ref tx] ++ vs15 ++ [x2]))) := NLs.put e19
    have k20 : Keep (fun b => b = lw) H19 (upd H19 lw (.lst ([V.ref tx] ++ vs15 ++ [x2]))) := fun b o nb e => by rw [upd_ne nb]; exact e
    have e20 : upd H19 lw (.lst ([V.ref tx] ++ vs15 ++ [x2])) lw = some (.lst ([V.ref tx] ++ vs15 ++ [x2])) := upd_same
    generalize upd H19 lw (.lst ([V.ref tx] ++ vs15 ++ [x2])) = H20 at g20 p20 nl20 k20 e20 ⊢
    have dy20 : DqAll K H20 ([V.ref tx] ++ vs15 ++ [x2]) ((od :: ds) ++ [d2]) := (dqs_of (deeds_nls nl20 dw19 fun e m => deed_of (alw e m))).app (.cons (f2 (fun b => b = lw) H20 (fun b c => by rw [c, e18]; exact nofun) k20) .nil)
    have ck20 : checkD dsk (.list ((od :: ds) ++ [d2])) = .noDeed (od :: ds).length := check_bad bd2 alw
    have l20 : ([V.ref tx] ++ vs15 ++ [x2]).length = ds.length + 2 := by simp only [List.length_append, List.length_cons, List.length_nil]; omega
    show rLenU K [V.ref lw] H20 _
    refine len_l (.inl (.inl e20)) ⟨_, rfl, by decide +kernel, ?_⟩
    rw [l20, show (((ds.length + 2 : Nat) : Int) - 1) = (((od :: ds).length : Nat) : Int) by simp only [List.length_cons]; omega]
    walk_at "lay"
    rename_i t21 H21 s21 n21 e21
    have g21 := g20.trans (Gr.of (p := p) s21)
    refine ⟨ba, .ref lw, .ref t21, .list ((od :: ds) ++ [d2]), dsk, rs, rfl, (C.st H21 g21).bk, .lst (.inl (.inl (s21 _ _ e20))) (dy20.same s21), (fun xs e => by
      injection e with e
      subst e
      refine ⟨by simp only [List.length_append, List.length_cons, List.length_nil]; omega, fun e m => ?_⟩
      rcases List.mem_append.mp m with m | m
      · exact okf e m
      · rw [List.mem_singleton.mp m]
        exact bad_short d2 m2), (fun q e => by rw [ck20] at e; cases e), ?_, fun H22 s22 => ⟨_, rfl, ?_⟩⟩
    · rw [ck20]
      exact .tup (.inl (.inl e21)) (.cons (.str _) (.cons (.int _) (.cons (.bl _) (.cons (.bl _) (.cons (.bl _) .nil)))))
    rw [if_neg (by decide)]
    -- values that are no lists
    have s2022 := s21.trans s22
    have g22 := g20.trans (Gr.of (p := p) s2022)
    have p22 := p20.same s2022
    obtain ⟨vs22, ela22, dv22⟩ := (C.st H22 g22).el
    refine tup_l (.inl (.inl ela22)) ?_
    walk_at "lay"
    rename_i t23 H23 s23 n23 e23
    walk_at "lay"
    rename_i d24 H24 s24 n24 e24
    refine ⟨by decide +kernel, ?_⟩
    walk_at "lay"
    rename_i t25 H25 s25 n25 e25
    refine ⟨by decide +kernel, ?_⟩
    walk_at "lay"
    rename_i t26 H26 s26 n26 e26
    refine disp_one fun d27 H27 s27 n27 e27 => ⟨by decide +kernel, ?_⟩
    walk_at "lay"
    rename_i l28 H28 s28 n28 e28
    have s2328 := s24.trans (s25.trans (s26.trans (s27.trans s28)))
    have s2228 := s23.trans s2328
    have p28 := p22.same s2228
    have g28 := g22.trans (Gr.of (p := p) s2228)
    refine ⟨p, 10, _, rfl, p28, by omega, by decide, by decide, fun r H29 r0 r1 g29 p29 => ?_⟩
    have nl29 := NLs.gr1 p28 g29
    have e28' := g29.keep _ _ (fun c => (((p22.same s23).same s24).same (s25.trans (s26.trans s27))).ne (c ▸ n28)) e28
    have g29b := g28.trans g29
    obtain ⟨x, kd, hx, dx, ckx, okx⟩ : ∃ x kd, atI [V.ref t23, V.non, V.str "letter", V.ref d24, V.bl true, V.int 0, V.ref t25, V.ref t26, V.str "", V.ref d27] r = some x ∧ Dt K H29 x kd ∧ checkD dsk kd = .noDeed 0 ∧ okDeeds kd := by
      have a23 := nl29 _ _ (s2328 _ _ e23) trivial
      have a24 := g29.keep _ _ (fun c => (p22.same s23).ne (c ▸ n24)) ((s25.trans (s26.trans (s27.trans s28))) _ _ e24)
      have a25 := nl29 _ _ ((s26.trans (s27.trans s28)) _ _ e25) trivial
      have a26 := nl29 _ _ ((s27.trans s28) _ _ e26) trivial
      obtain ⟨kvs, e27⟩ := e27
      have a27 := g29.keep _ _ (fun c => ((p22.same s23).same (s24.trans (s25.trans s26))).ne (c ▸ n27)) (s28 _ _ e27)
      rcases (show r = 0 ∨ r = 1 ∨ r = 2 ∨ r = 3 ∨ r = 4 ∨ r = 5 ∨ r = 6 ∨ r = 7 ∨ r = 8 ∨ r = 9 by omega) with rfl | rfl | rfl | rfl | rfl | rfl | rfl | rfl | rfl | rfl
      · exact ⟨_, .tuple ds, rfl, Dt.dp (.tup (.inl (.inl a23)) (deeds_nls nl29 (dpsSame s2228 dv22) alD)), rfl, fun _ e => by cases e⟩
      · exact ⟨_, .none, rfl, Dt.dp .non, rfl, fun _ e => by cases e⟩
      · exact ⟨_, .str "letter", rfl, Dt.dp (.str _), rfl, fun _ e => by cases e⟩
      · exact ⟨_, .dict [], rfl, .of (.dct a24), rfl, fun _ e => by cases e⟩
      · exact ⟨_, .bool true, rfl, Dt.dp (.bl _), rfl, fun _ e => by cases e⟩
      · exact ⟨_, .int 0, rfl, Dt.dp (.int _), rfl, fun _ e => by cases e⟩
      · exact ⟨_, .tuple [], rfl, Dt.dp (.tup (.inl (.inl a25)) .nil), rfl, fun _ e => by cases e⟩
      · exact ⟨_, .tuple [.str "letter"], rfl, Dt.dp (.tup (.inl (.inl a26)) (.cons (.str _) .nil)), rfl, fun _ e => by cases e⟩
      · exact ⟨_, .str "", rfl, Dt.dp (.str _), rfl, fun _ e => by cases e⟩
      · exact ⟨_, .dict [], rfl, .of (.dct a27), rfl, fun _ e => by cases e⟩
    refine ix_l (.inl (.inl e28')) hx ⟨by decide +kernel, ?_⟩
    walk_at "lay"
    rename_i t30 H30 s30 n30 e30
    have g30 := g29b.trans (Gr.of (p := p) s30)
    refine ⟨ba, x, .ref t30, kd, dsk, rs, rfl, (C.st H30 g30).bk, dx.same s30, okx, (fun q e => by rw [ckx] at e; cases e), ?_, fun H31 s31 => ⟨_, rfl, ?_⟩⟩
    · rw [ckx]
      exact .tup (.inl (.inl e30)) (.cons (.str _) (.cons (.int _) (.cons (.bl _) (.cons (.bl _) (.cons (.bl _) .nil)))))
    rw [if_neg (by decide)]
    have g31 := g30.trans (Gr.of (p := p) s31)
    have S31 := C.st H31 g31
    have da31 : Dp K H31 (.ref la) (.list ds) := by
      obtain ⟨vs, e, dv⟩ := S31.el
      exact .lst (.inl (.inl e)) dv
    refine play_good S31.bk da31 (by omega) C.al (.inr C.hd) fun v32 H32 s32 f32 => ?_
    refine eq_dl f32.dp (dpSame s32 S31.gd) layP (by decide) ⟨_, rfl, ?_⟩
    rw [if_pos rfl]
    refine hist_good (S31.bk.same s32) (dpSame s32 da31) (by omega) C.al (.inr C.hd) fun v33 H33 s33 f33 => ?_
    have s3133 := s32.trans s33
    refine eq_dl f33.dp (dpSame s3133 S31.wd) layF (by decide) ⟨_, rfl, ?_⟩
    rw [if_pos rfl]
    have g33 := g31.trans (Gr.of (p := p) s3133)
    have S33 := C.st H33 g33
    obtain ⟨ba', dx', vd', vr', eb', ha', _⟩ := id S33.bk
    cases eb'
    refine ⟨_, _, ha', rfl, _, dsk, rs, rfl, S33.bk, fun v4 hv4 => ?_⟩
    obtain ⟨ar, rfl⟩ : ∃ a, v4 = .ref a := by obtain ⟨a, _, e, _⟩ := dp_tup hv4; exact ⟨a, e⟩
    refine eq_same hv4 S33.rd (n := 4) (fun e m => rule_lay lo (good_all C.gb e m)) (by decide) (q H33 (g.trans g33))
  refine ⟨_, (pss_cons (ps_set (i := 1) sc__law_right.nd rfl (by first | exact Or.inl rfl | exact Or.inr rfl) (pe_callD (d__law_desks T) hr rfl passL (pa_cons (pv 0) (pa_cons pe_int pa_nil)))) (pss_cons (ps_set (i := 2) sc__law_right.nd rfl (by first | exact Or.inl rfl | exact Or.inr rfl) (pe_ix (kIx (K := K)) (pe_lc (own := [("name", 3)]) rfl sc__law_right.nd (kSeq (K := K) (pe_lst (pa_cons pe_str (pa_cons pe_str (pa_cons pe_str (pa_cons pe_str (pa_cons pe_str pa_nil))))))) (blkOk_by (N := ["pot", "desks", "odd", "name", "many", "rules", "k", "work", "acts", "good", "wrong", "spot", "row", "some", "other", "wrong_kinds"]) (sc := defScope s__law_right) (own := [("name", 3)]) (by decide +kernel)) (fun _ _ _ _ _ => (pg_name (i := 3) sc__law_right.nd rfl (by first | exact Or.inl rfl | exact Or.inr rfl))) (fun _ _ _ _ _ => (pts_one (pt_cmpR (kNotIn (K := K)) (pv 3) (pv 1) (by rfl)))) (fun _ _ _ _ _ => (pv 3))) pe_int (fun _ _ => rfl))) (pss_cons (ps_set (i := 4) sc__law_right.nd rfl (by first | exact Or.inl rfl | exact Or.inr rfl) (pe_callD (d__law_dip T) hr rfl passL (pa_cons (pv 0) (pa_cons pe_int pa_nil)))) (pss_cons (ps_set (i := 5) sc__law_right.nd rfl (by first | exact Or.inl rfl | exact Or.inr rfl) (pe_callTy (kTuple (K := K)) (by rfl) T.b_tuple (by decide +kernel) (pa_cons (pe_lc (own := [("k", 6)]) rfl sc__law_right.nd (pi_range1 rfl T.b_range (pa_cons (pv 4) pa_nil)) (blkOk_by (N := ["pot", "desks", "odd", "name", "many", "rules", "k", "work", "acts", "good", "wrong", "spot", "row", "some", "other", "wrong_kinds"]) (sc := defScope s__law_right) (own := [("k", 6)]) (by decide +kernel)) (fun _ _ _ _ _ => (pg_name (i := 6) sc__law_right.nd rfl (by first | exact Or.inl rfl | exact Or.inr rfl))) (fun _ _ _ _ _ => pts_nil) (fun _ _ _ _ _ => (pe_callD (d__law_rule T) hr rfl passL (pa_cons (pv 0) (pa_cons (pv 1) (pa_cons (pe_lst (pa_cons pe_str (pa_cons pe_str (pa_cons pe_str (pa_cons pe_str pa_nil))))) pa_nil)))))) pa_nil))) (pss_cons (ps_set (i := 7) sc__law_right.nd rfl (by first | exact Or.inl rfl | exact Or.inr rfl) (pe_makeD (mk_Book T) hr rfl passL (pa_cons (pv 1) (pa_cons (pv 5) pa_nil)))) (pss_cons (ps_set (i := 4) sc__law_right.nd rfl (by first | exact Or.inl rfl | exact Or.inr rfl) (pe_callD (d__law_dip T) hr rfl passL (pa_cons (pv 0) (pa_cons pe_int pa_nil)))) (pss_cons (ps_set (i := 8) sc__law_right.nd rfl (by first | exact Or.inl rfl | exact Or.inr rfl) (pe_op (kAdd (K := K)) (pe_lst (pa_cons (pe_tup (pa_cons pe_str pa_nil)) pa_nil)) (pe_lc (own := [("k", 6)]) rfl sc__law_right.nd (pi_range1 rfl T.b_range (pa_cons (pv 4) pa_nil)) (blkOk_by (N := ["pot", "desks", "odd", "name", "many", "rules", "k", "work", "acts", "good", "wrong", "spot", "row", "some", "other", "wrong_kinds"]) (sc := defScope s__law_right) (own := [("k", 6)]) (by decide +kernel)) (fun _ _ _ _ _ => (pg_name (i := 6) sc__law_right.nd rfl (by first | exact Or.inl rfl | exact Or.inr rfl))) (fun _ _ _ _ _ => pts_nil) (fun _ _ _ _ _ => (pe_callD (d__law_deed T) hr rfl passL (pa_cons (pv 0) (pa_cons (pv 1) pa_nil))))))) (pss_cons (ps_par (i := 9) (j := 10) rfl sc__law_right.nd rfl rfl (by decide) rfl rfl (pa_cons (pe_callD (d_play T) hr rfl passL (pa_cons (pv 7) (pa_cons (pe_callTy (kList (K := K)) (by rfl) T.b_list (by decide +kernel) (pa_cons (pv 8) pa_nil)) pa_nil))) (pa_cons (pe_callD (d_faults T) hr rfl passL (pa_cons (pv 7) (pa_cons (pe_callTy (kList (K := K)) (by rfl) T.b_list (by decide +kernel) (pa_cons (pv 8) pa_nil)) pa_nil))) pa_nil)) (by rfl)) (pss_cons (ps_if (PW.pt (pw_or (pt_cmpR (kNe (K := K) hr.units) (pe_callB (kLen (K := K)) (by rfl) T.b_len PySem.boot_len (pa_cons (pv 9) pa_nil)) (pe_callB (kLen (K := K)) (by rfl) T.b_len PySem.boot_len (pa_cons (pv 8) pa_nil)) (nomark _)) (pw_or (pt_cmpR (kNe (K := K) hr.units) (pe_callD (d_play T) hr rfl passL (pa_cons (pv 7) (pa_cons (pe_lst pa_nil) pa_nil))) (pe_lst pa_nil) (nomark _)) (pw_or1 (pt_cmpR (kNe (K := K) hr.units) (pe_callD (d_faults T) hr rfl passL (pa_cons (pv 7) (pa_cons (pe_lst pa_nil) pa_nil))) (pe_lst pa_nil) (nomark _)))))) (pss_one (ps_ret pe_bl)) pss_nil) (pss_cons (ps_set (i := 11) sc__law_right.nd rfl (by first | exact Or.inl rfl | exact Or.inr rfl) (pe_callD (d__law_dip T) hr rfl passL (pa_cons (pv 0) (pa_cons (pe_op (kAdd (K := K)) (pe_callB (kLen (K := K)) (by rfl) T.b_len PySem.boot_len (pa_cons (pv 8) pa_nil)) pe_int) pa_nil)))) (pss_cons (ps_set (i := 12) sc__law_right.nd rfl (by first | exact Or.inl rfl | exact Or.inr rfl) (pe_op (kAdd (K := K)) (pe_op (kAdd (K := K)) (pe_slice (kSl (K := K)) (pv 8) po_none (po_some (pv 11))) (pe_lst (pa_cons (pe_callD (d__law_bad T) hr rfl passL (pa_cons (pv 0) (pa_cons (pv 1) (pa_cons (pv 2) pa_nil)))) pa_nil))) (pe_slice (kSl (K := K)) (pv 8) (po_some (pv 11)) po_none))) (pss_cons (ps_if (pt_cmpR (kEq (K := K) hr.units) (pe_callD (d__law_dip T) hr rfl passL (pa_cons (pv 0) (pa_cons pe_int pa_nil))) pe_int (nomark _)) (pss_one (ps_expr (kBm (K := K) PySem.F.plainAttrs_list PySem.F.slot_list_append PySem.F.type_list_append mt_append (pv 12) (pa_cons (pe_callD (d__law_bad T) hr rfl passL (pa_cons (pv 0) (pa_cons (pv 1) (pa_cons (pv 2) pa_nil)))) pa_nil)))) pss_nil) h12)))))))))))), ?_⟩
  walk_at "rn"
  refine ⟨p, 0, 1, rfl, by decide, by decide, hp, by decide, fun vd dsk H2 ld ad fdd g2 p2 => ?_⟩
  have hd2 : Dp K H2 vd (.tuple (dsk.map PyData.str)) := fdd.dp
  obtain ⟨da, rfl, hds⟩ := dp_strs hd2
  have d14 : 1 ≤ dsk.length ∧ dsk.length ≤ 4 := by
    have h := ad
    unfold areDesksD at h
    simp only [Bool.and_eq_true, decide_eq_true_eq, List.length_map] at h
    exact h.1.1
  have names := fun z (m : z ∈ dsk) => desk_name ad m
  -- odd
  refine lc_l ?_
  walk_at "rn"
  refine ⟨by decide +kernel, ?_⟩
  walk_at "lay"
  rename_i l3 H3 s3 n3 e3
  refine lcFil (ds := oddsS.map PyData.str) (.lst (.inl (.inl e3)) (dpa_strs oddsS)) (by rw [sizeLine_eq]; decide) (offD dsk) ?_ ?_
  · intro j x d H6 N hx s6 dx nf nt
    obtain ⟨z, hz, rfl⟩ : ∃ z, oddsS[j]? = some z ∧ d = .str z := by
      rw [List.getElem?_map] at hx
      obtain ⟨z, h1, h2⟩ := Option.map_eq_some_iff.mp hx
      exact ⟨z, h1, h2.symm⟩
    cases dp_str dx
    walk_at "rn"
    refine ⟨da, _, rfl, .inr (same_seqT (s3.trans s6) hds), rfl, flat_all _, ?_⟩
    rw [if_pos rfl, inV_strs]
    refine ⟨_, rfl, ?_⟩
    have ee : offD dsk (.str z) = !dsk.any fun y => y == z := rfl
    by_cases c : dsk.any (fun y => y == z) = true
    · rw [c, if_neg (by decide)]
      exact nf H6 (Same.refl H6) (by rw [ee, c]; rfl)
    · rw [Bool.not_eq_true] at c
      rw [c, if_pos (by decide)]
      exact nt H6 (Same.refl H6) (by rw [ee, c]; rfl)
  intro D4 H4 n4 s4 dD4
  obtain ⟨odd, orest, eodd, odn⟩ := odd_left (zs := dsk) d14.2
  rw [eodd] at dD4
  refine ix_dlP (i := 0) dD4 rfl fun uo duo => ?_
  cases dp_str duo
  -- rules
  have s24 := s3.trans s4
  refine ⟨p, 4, _, rfl, p2.same s24, by omega, by decide, by decide, fun r H5 r0 r1 g5 p5 => ?_⟩
  obtain ⟨m, rfl⟩ := Int.eq_ofNat_of_zero_le r0
  walk_at "rn"
  have g25 := (Gr.of (p := p) s24).trans g5
  have hds5 : SqT K H5 da (dsk.map V.str) := sqT_gr hds p2 g25
  refine lcDraw (K := K) 48 (fun d => isRuleD dsk d = true) (by rw [sizeLine_eq]; omega) p5 ?_ ?_
  · intro i H' N hi g' p' q'
    walk_at "rn"
    refine ⟨by decide +kernel, ?_⟩
    walk_at "lay"
    rename_i le H4 s4 n4 e4
    exact ⟨p, da, le, _, dsk, ["letter", "day", "moved", "status"], rfl, p'.same s4, by omega, same_seqT s4 (sqT_gr hds5 p5 g'), d14.1, d14.2, e4, fun c => p'.ne (c ▸ n4), by decide, by decide, by decide +kernel, fun v d H5 gd fd g5 p5 _ => q' v d H5 ((Gr.of s4).trans g5) (by exact p5) (fd.weak (fun b z => (Gr.of (p := p) s4).dom b z)) gd⟩
  intro D6 H6 ys6 rs nD6 g6 eD6 p6 lrs F6 gd6
  refine tup_l (.inl (.inl eD6)) ?_
  walk_at "lay"
  rename_i vr H7 s7 n7 e7
  have g57 := g6.trans (Gr.of (p := p) s7)
  have fr7 : Fd K H5 H7 (.ref vr) (.tuple rs) := Fd.tup (F6.same s7) e7 (by
    cases e : H5 vr with
    | none => rfl
    | some o => exact absurd n7 (g6.dom _ (by rw [e]; exact nofun)))
  have hds7 := sqT_gr hds5 p5 g57
  have p7 := p6.same s7
  have gb : goodBook dsk rs := good_of ad (by omega) gd6
  refine make_good (.tup hds7 (dpa_strs dsk)) fr7.dp gb fun ba H8 s8 bk8 => ?_
  -- deeds
  have p8 := p7.same s8
  refine ⟨p, 13, _, rfl, p8, by omega, by decide, by decide, fun r9 H9 r90 r91 g9 p9 => ?_⟩
  obtain ⟨many, rfl⟩ := Int.eq_ofNat_of_zero_le r90
  refine ⟨by decide +kernel, ?_⟩
  walk_at "lay"
  rename_i t10 H10 s10 n10 e10
  refine ⟨by decide +kernel, ?_⟩
  walk_at "lay"
  rename_i l11 H11 s11 n11 e11
  walk_at "rn"
  have p11 := p9.same (s10.trans s11)
  have g811 := g9.trans (Gr.of (p := p) (s10.trans s11))
  have hds8 := same_seqT s8 hds7
  have hds11 := sqT_gr hds8 p8 g811
  refine lcDraw (K := K) 4 (fun d => isDeedD dsk d = true) (by rw [sizeLine_eq]; omega) p11 ?_ ?_
  · intro i H' N hi g' p' q'
    walk_at "rn"
    exact ⟨p, da, _, dsk, rfl, p', by omega, sqT_gr hds11 p11 g', d14.1, d14.2, fun v d H5 gd fd g5 p5 => q' v d H5 g5 (by exact p5) fd gd⟩
  intro D12 H12 ys12 ds0 nD12 g12 eD12 p12 lds F12 gd12
  have e11' : H12 l11 = some (.lst [.ref t10]) := g12.keep _ _ (fun c => (p9.same s10).ne (c ▸ n11)) e11
  have ly12 : ys12.length = ds0.length := F12.len
  refine cat_l e11' eD12 (by simp only [List.length_cons, List.length_nil]; omega) ?_
  walk_at "lay"
  rename_i la H13 s13 n13 e13
  have p13 := p12.same s13
  have et13 : H13 t10 = some (.tup [.str "letter"]) := s13 _ _ (g12.keep _ _ (fun c => p9.ne (c ▸ n10)) (s11 _ _ e10))
  have dv13 : DpAll K H13 ([.ref t10] ++ ys12) (.tuple [.str "letter"] :: ds0) := .cons (.tup (.inl (.inl et13)) (.cons (.str _) .nil)) (dpsSame s13 F12.dps)
  have al : ∀ d ∈ (PyData.tuple [.str "letter"] :: ds0), isDeedD dsk d = true := fun d m => by
    rcases List.mem_cons.mp m with rfl | m
    · rfl
    · exact gd12 d m
  have lo : lowOk dsk := good_low gb
  have few : (PyData.tuple [.str "letter"] :: ds0).length ≤ 14 := by simp only [List.length_cons]; omega
  have hd : headW (PyData.tuple [.str "letter"] :: ds0) = true := rfl
  generalize PyData.tuple [.str "letter"] :: ds0 = ds at dv13 al few hd
  have nlap : la ≠ p := fun c => p12.ne (c ▸ n13)
  have g813 := g811.trans (g12.trans (Gr.of (p := p) s13))
  have bk13 := bk8.nls (NLs.gr1 p8 g813)
  -- what is told
  refine list_l (.inl (.inl e13)) ?_
  walk_at "lay"
  rename_i l14 H14 s14 n14 e14
  refine play_good (bk13.same s14) (.lst (.inl (.inl e14)) (dpsSame s14 dv13)) (by omega) al (.inr hd) fun gv H15 s15 f15 => ?_
  have s1315 := s14.trans s15
  refine list_l (.inl (.inl (s1315 _ _ e13))) ?_
  walk_at "lay"
  rename_i l16 H16 s16 n16 e16
  have s1316 := s1315.trans s16
  refine hist_good (bk13.same s1316) (.lst (.inl (.inl e16)) (dpsSame s1316 dv13)) (by omega) al (.inr hd) fun wv H17 s17 f17 => ?_
  have s1317 := s1316.trans s17
  have p14 := p13.same s14
  have p15 := p13.same s1315
  have p16 := p13.same s1316
  have p17 := p13.same s1317
  have soft : ∀ {H : Hp} {n : Nat}, PotAt H p n → H p ≠ none ∧ Soft H p := fun h => ⟨h.ne, by obtain ⟨x, y, c, e, _⟩ := h; exact .inr (.inl ⟨_, e⟩)⟩
  have S : ∀ H', Gr p H17 H' → S27 K Z H' da ba la (.ref vr) gv wv dsk rs ds := fun H' g => by
    have g13 := (Gr.of (p := p) s1317).trans g
    have nl13 := NLs.gr1 p13 g13
    have g8 := g813.trans g13
    refine ⟨sqT_gr hds8 p8 g8, fr7 (fun b => b = p) H' (fun b z => z ▸ p5.ne) ?_, bk13.nls nl13, ⟨_, g13.keep _ _ nlap e13, deeds_nls nl13 dv13 fun d m => deed_of (al d m)⟩, ?_, ?_⟩
    · exact ((Gr.of (p := p) s8).trans g8).keep
    · exact f15 (fun b => b = p) H' (fun b z => by rw [z]; exact ⟨(soft p14).1, (soft p15).2⟩) ((Gr.of (p := p) (s16.trans s17)).trans g).keep
    · exact f17 (fun b => b = p) H' (fun b z => by rw [z]; exact ⟨(soft p16).1, (soft p17).2⟩) g.keep
  have lg : (playT rs dsk ds).length = ds.length := by unfold playT; rw [List.length_map, turns_len]
  have S17 := S H17 (Gr.refl p H17)
  have lv : ([V.ref t10] ++ ys12).length = ds.length := dps_len dv13
  refine len_dl S17.gd (len_l (.inl (.inl (s1317 _ _ e13))) ?_)
  rw [lg, lv, rNeU_ii]
  refine ⟨_, rfl, ?_⟩
  rw [if_neg (by simp)]
  refine ⟨by decide +kernel, ?_⟩
  walk_at "lay"
  rename_i l18 H18 s18 n18 e18
  refine play_good (ds := []) (S17.bk.same s18) (.lst (.inl (.inl e18)) .nil) (by simp) (fun _ m => nomatch m) (.inl rfl) fun v19 H19 s19 f19 => ?_
  refine ⟨by decide +kernel, ?_⟩
  walk_at "lay"
  rename_i l20 H20 s20 n20 e20
  refine ne_dl (ds := []) (n := 1) (dpSame s20 f19.dp) (.lst (.inl (.inl e20)) .nil) (fun _ m => nomatch m) (by decide) ⟨_, rfl, ?_⟩
  rw [if_neg (by decide)]
  refine ⟨by decide +kernel, ?_⟩
  walk_at "lay"
  rename_i l21 H21 s21 n21 e21
  have s1720 := (s18.trans s19).trans s20
  refine hist_good (ds := []) (S17.bk.same (s1720.trans s21)) (.lst (.inl (.inl e21)) .nil) (by simp) (fun _ m => nomatch m) (.inl rfl) fun v22 H22 s22 f22 => ?_
  refine ⟨by decide +kernel, ?_⟩
  walk_at "lay"
  rename_i l23 H23 s23 n23 e23
  refine ne_dl (ds := []) (n := 1) (dpSame s23 f22.dp) (.lst (.inl (.inl e23)) .nil) (fun _ m => nomatch m) (by decide) ⟨_, rfl, ?_⟩
  rw [if_neg (by decide)]
  -- the place
  have s1723 := ((s1720.trans s21).trans s22).trans s23
  have p23 := p17.same s1723
  refine len_l (.inl (.inl (s1723 _ _ (s1317 _ _ e13)))) ?_
  rw [lv]
  walk_at "rn"
  refine ⟨p, _, _, rfl, p23, by omega, by omega, by omega, fun spi H24 sp0 sp1 g24 p24 => ?_⟩
  obtain ⟨sp, rfl⟩ := Int.eq_ofNat_of_zero_le sp0
  refine ⟨_, rfl, ?_⟩
  have g1724 := (Gr.of (p := p) s1723).trans g24
  have S24 := S H24 g1724
  obtain ⟨vs24, ela24, dv24⟩ := S24.el
  have lv24 := dps_len dv24
  refine sl_to (k := sp) (.inl (.inl ela24)) (by omega) fun l25 H25 s25 n25 e25 => ?_
  have p25 := p24.same s25
  have g1725 := g1724.trans (Gr.of (p := p) s25)
  have shorts := fun z (m : z ∈ dsk) => (names z m).2
  refine ⟨p, da, _, dsk, odd, rfl, p25, by omega, (S H25 g1725).sd, d14.1, d14.2, shorts, fun x1 d1 z1 H26 mz1 m1 f1 g26 p26 => ?_⟩
  have n1 : l25 ≠ p := fun c => p24.ne (c ▸ n25)
  refine ⟨by decide +kernel, ?_⟩
  walk_at "lay"
  rename_i l27 H27 s27 n27 e27
  have e25' := s27 _ _ (g26.keep _ _ n1 e25)
  refine cat_l e25' e27 (by rw [List.length_take]; simp only [List.length_cons, List.length_nil]; omega) ?_
  walk_at "lay"
  rename_i l28 H28 s28 n28 e28
  have g1728 := g1725.trans (g26.trans (Gr.of (p := p) (s27.trans s28)))
  obtain ⟨vs28, ela28, dv28⟩ := (S H28 g1728).el
  have lv28 := dps_len dv28
  refine ⟨_, rfl, sl_from (k := sp) (.inl (.inl ela28)) (by omega) fun l29 H29 s29 n29 e29 => ?_⟩
  refine cat_l (s29 _ _ e28) e29 (by rw [List.length_append, List.length_take, List.length_drop]; simp only [List.length_cons, List.length_nil]; omega) ?_
  walk_at "lay"
  rename_i lr H30 s30 n30 e30
  have p30 := p26.same (s27.trans (s28.trans (s29.trans s30)))
  have g1730 := g1728.trans (Gr.of (p := p) (s29.trans s30))
  have nrp : lr ≠ p := fun c => (p26.same (s27.trans (s28.trans s29))).ne (c ▸ n30)
  have nr17 : H17 lr = none := (g1728.trans (Gr.of (p := p) s29)).none n30
  refine ⟨p, 2, _, rfl, p30, by omega, by decide, by decide, fun r31 H31 r310 r311 g31 p31 => ?_⟩
  dsimp only
  rw [rEqU_ii]
  refine ⟨_, rfl, ?_⟩
  have g1731 := g1730.trans g31
  have alD : ∀ d ∈ ds, DeedIs dsk d := fun d m => deed_of (al d m)
  have e31 := g31.keep _ _ nrp e30
  have g2431 : Gr p H24 H31 := ((Gr.of (p := p) s25).trans g26).trans ((Gr.of (p := p) (s27.trans (s28.trans (s29.trans s30)))).trans g31)
  have g2831 : Gr p H28 H31 := (Gr.of (p := p) (s29.trans s30)).trans g31
  have p28 := p26.same (s27.trans s28)
  have a31 : DpAll K H31 (vs24.take sp) (ds.take sp) := deeds_nls (NLs.gr1 p24 g2431) (dps_take sp dv24) fun e m => alD e (List.mem_of_mem_take m)
  have b31 : DpAll K H31 (vs28.drop sp) (ds.drop sp) := deeds_nls (NLs.gr1 p28 g2831) (dps_drop sp dv28) fun e m => alD e (List.mem_of_mem_drop m)
  have x31 : ∀ H', Gr p H31 H' → Dq K H' x1 d1 := fun H' g => f1 (fun b => b = p) H' (fun b c => c ▸ p25.ne) ((Gr.of (p := p) (s27.trans (s28.trans (s29.trans s30)))).trans (g31.trans g)).keep
  have em : ("" : Str) ∉ dsk := fun m => by
    have a := (names _ m).1
    have e : ("" : Str).length = 0 := by decide +kernel
    omega
  have bd1 : isDeedD dsk d1 = false := bad_not odn em (sp_off z1) d1 m1
  have C : C27 K Z H17 p da ba la (.ref vr) gv wv odd dsk rs ds := ⟨S, ad, odn, gb, al, few, hd, nlap⟩
  have gH17 : Gr p H H17 := g2.trans (g25.trans (g57.trans ((Gr.of (p := p) s8).trans (g813.trans (Gr.of (p := p) s1317)))))
  have okt : ∀ e ∈ ds, okForm e := fun e m => (alD e m).short
  by_cases c : r31 = 0
  · rw [if_pos (decide_eq_true c)]
    refine ⟨.inl ⟨rfl, _, .inl (.inl e31)⟩, ?_⟩
    refine ⟨p, da, _, dsk, odd, rfl, p31, by omega, (S H31 g1731).sd, d14.1, d14.2, shorts, fun x2 d2 z2 H32 mz2 m2 f2 g32 p32 => ?_⟩
    have e32 := g32.keep _ _ nrp e31
    refine ⟨lr, _, x2, rfl, rfl, e32, by simp only [List.length_append, List.length_take, List.length_drop, List.length_cons, List.length_nil]; rw [sizeLine_eq]; omega, ?_⟩
    have nl32 := NLs.gr1 p31 g32
    have g2632 : Gr p H26 H32 := (Gr.of (p := p) (s27.trans (s28.trans (s29.trans s30)))).trans (g31.trans g32)
    have n26 : H26 lr = none := (Gr.of (p := p) (s27.trans (s28.trans s29))).none n30
    have nl33 : NLs H32 (upd H32 lr (.lst ((vs24.take sp ++ [x1] ++ vs28.drop sp) ++ [x2]))) := NLs.put e32
    have k33 : Keep (fun b => b = lr) H32 (upd H32 lr (.lst ((vs24.take sp ++ [x1] ++ vs28.drop sp) ++ [x2]))) := fun b o nb e => by rw [upd_ne nb]; exact e
    have g2633 : Gr p H26 (upd H32 lr (.lst ((vs24.take sp ++ [x1] ++ vs28.drop sp) ++ [x2]))) := g2632.putN n26 nrp
    have g1733 : Gr p H17 (upd H32 lr (.lst ((vs24.take sp ++ [x1] ++ vs28.drop sp) ++ [x2]))) := (g1731.trans g32).putN nr17 nrp
    have p33 : PotAt (upd H32 lr (.lst ((vs24.take sp ++ [x1] ++ vs28.drop sp) ++ [x2]))) p _ := p32.putN nrp
    have e33 : upd H32 lr (.lst ((vs24.take sp ++ [x1] ++ vs28.drop sp) ++ [x2])) lr = some (.lst ((vs24.take sp ++ [x1] ++ vs28.drop sp) ++ [x2])) := upd_same
    show t12 _ _ (upd H32 lr (.lst ((vs24.take sp ++ [x1] ++ vs28.drop sp) ++ [x2])))
    generalize upd H32 lr (.lst ((vs24.take sp ++ [x1] ++ vs28.drop sp) ++ [x2])) = H33 at nl33 k33 g2633 g1733 p33 e33 ⊢
    have nl3133 := nl32.trans nl33
    have x33 : Dq K H33 x1 d1 := f1 (fun b => b = p) H33 (fun b c => c ▸ p25.ne) g2633.keep
    have y33 : Dq K H33 x2 d2 := f2 (fun b => b = lr) H33 (fun b c => by rw [c, e31]; exact nofun) k33
    have a33 := deeds_nls nl3133 a31 fun e m => alD e (List.mem_of_mem_take m)
    have b33 := deeds_nls nl3133 b31 fun e m => alD e (List.mem_of_mem_drop m)
    have dy : DqAll K H33 ((vs24.take sp ++ [x1] ++ vs28.drop sp) ++ [x2]) (ds.take sp ++ d1 :: (ds.drop sp ++ [d2])) := by
      have := (((dqs_of a33).app (.cons x33 .nil)).app (dqs_of b33)).app (.cons y33 .nil)
      rw [show ds.take sp ++ d1 :: (ds.drop sp ++ [d2]) = ((ds.take sp ++ [d1]) ++ ds.drop sp) ++ [d2] by simp]
      exact this
    refine m12 H17 H33 da ba la lr (.ref vr) gv wv odd dsk rs ds _ sp _ _ d1 _ C gH17 g1733 (p17.mono (by omega)) p33 (by omega) e33 nr17 dy (by omega) bd1 (by simp only [List.length_append, List.length_drop, List.length_cons, List.length_nil]; omega) fun e m => ?_
    rcases List.mem_append.mp m with m | m
    · exact okt e (List.mem_of_mem_take m)
    · rcases List.mem_cons.mp m with rfl | m
      · exact bad_short _ m1
      · rcases List.mem_append.mp m with m | m
        · exact okt e (List.mem_of_mem_drop m)
        · rw [List.mem_singleton.mp m]
          exact bad_short _ m2
  · rw [if_neg (by simpa using c)]
    have dy : DqAll K H31 (vs24.take sp ++ [x1] ++ vs28.drop sp) (ds.take sp ++ d1 :: ds.drop sp) := by
      have := ((dqs_of a31).app (.cons (x31 H31 (Gr.refl p H31)) .nil)).app (dqs_of b31)
      rw [show ds.take sp ++ d1 :: ds.drop sp = (ds.take sp ++ [d1]) ++ ds.drop sp by simp]
      exact this
    refine m12 H17 H31 da ba la lr (.ref vr) gv wv odd dsk rs ds _ sp _ _ d1 _ C gH17 g1731 (p17.mono (by omega)) p31 (by omega) e31 nr17 dy (by omega) bd1 (by rw [List.length_drop]; omega) fun e m => ?_
    rcases List.mem_append.mp m with m | m
    · exact okt e (List.mem_of_mem_take m)
    · rcases List.mem_cons.mp m with rfl | m
      · exact bad_short _ m1
      · exact okt e (List.mem_of_mem_drop m)
theorem few12 (n : Nat) : ∃ m : Nat, m ≤ 12 ∧ (if (if (n : Int) < 12 then (n : Int) else 12) > 1 then (if (n : Int) < 12 then (n : Int) else 12) else 1) = (m : Int) := by
  by_cases c : (n : Int) < 12
  · rw [if_pos c]
    by_cases d : (n : Int) > 1
    · exact ⟨n, by omega, if_pos d⟩
    · exact ⟨1, by omega, if_neg d⟩
  · rw [if_neg c]
    exact ⟨12, by omega, if_pos (by decide)⟩
def spTop (K : PySem.W.Frag) : Sp := fun vs H Q _ => ∃ a : Addr, ∃ ns : List Int, ns.length ≤ 63 ∧ vs = [V.ref a] ∧ SqL K H a (List.map V.int ns) ∧ ∀ H2, Q (.bl true) H2
theorem law_ok (T : TX P K mg Z) {f : Addr} {fd : FuncData} (hf : Fun K "law" "law" s_law f fd) : FnOk P w K mg base (L2.CX P w) 24 f fd ["script"] (spTop K) := by
  refine hf.okX sc_law (by rintro _ _ _ _ ⟨_, _, _, rfl, _⟩; rfl) fun cdv A outer s H vs Q E hr h => ?_
  obtain ⟨a, ns, hl, rfl, hs, q⟩ := h
  refine ⟨_, (pss_cons (ps_for (passes_of rfl) rfl (pi_range1 rfl T.b_range (pa_cons (pe_callB (call_max2 rfl) (by rfl) T.b_max (by decide +kernel) (pa_cons pe_int (pa_cons (pe_callB (call_min2 rfl) (by rfl) T.b_min (by decide +kernel) (pa_cons pe_int (pa_cons (pe_callB (kLen (K := K)) (by rfl) T.b_len PySem.boot_len (pa_cons (pv 0) pa_nil)) pa_nil))) pa_nil))) pa_nil)) (pg_name (i := 1) sc_law.nd rfl (by first | exact Or.inl rfl | exact Or.inr rfl)) (pss_one (ps_if (pt_not (pt_val (pe_callD (d__law_right T) hr rfl passL (pa_cons (pe_callD (d__law_pot T) hr rfl passL (pa_cons (pv 0) (pa_cons (pv 1) pa_nil))) pa_nil)))) (pss_one (ps_ret pe_bl)) pss_nil))) (pss_one (ps_ret pe_bl))), ?_⟩
  walk_at "rn"
  refine len_l hs ?_
  walk_at "rn"
  rw [List.length_map]
  obtain ⟨m, hm, em⟩ := few12 ns.length
  rw [em]
  refine forR (by rw [sizeLine_eq]; omega) (fun i σ H' => (∃ u, σ = [some (.ref a), u]) ∧ Same H H') ⟨⟨_, rfl⟩, Same.refl H⟩ ?_ ?_
  · rintro i σ H2 hi ⟨⟨u, rfl⟩, s2⟩
    walk_at "rn"
    refine ⟨a, ns, i, rfl, s2.seq hs, by omega, fun p H3 s3 n3 p3 => ⟨p, rfl, p3, fun H4 g4 => ⟨_, rfl, ?_⟩⟩⟩
    rw [if_neg (show ¬ (!true) = true by decide)]
    exact ⟨⟨_, rfl⟩, fun b o e => g4.keep b o (ne_of_none (s2 _ _ e) n3) (s3 _ _ (s2 _ _ e))⟩
  · rintro σ H2 ⟨⟨u, rfl⟩, s2⟩
    exact q H2
end
end Ld

set_option Elab.async false
set_option linter.all false
set_option maxRecDepth 100000
set_option maxHeartbeats 4000000
namespace Ld
open PySem PySem.Spec PyProof.Rows L2
local macro_rules | `(tactic| walk_at "rd") => `(tactic| try simp only [tSeq, tNext, tRet, tRetN, tIfS, tTest, tB, tAnd, tOr, tNot, tAndV, tOrV, tNotV, tOp, tUn, tC, tVar, tCons, tNil, tCall, tCB, tAsg, tDrop, tChain, tIf, tYes, tBreak, tCont, tNever, tFld, sFld, sFldAug, tMeth, tMake, tRaiseF, tMkF, tM1, tOwn2S, tOwnIxS, tXf, tRevL, tMethS, tTup, tLst, tSl, tPart, tNoPart, tPar, tBM, tBM0, tLenSetT, tAug, gName, gTup, gCons, gNil, gStar2, gFld, gSub, rI0, rI, rU, rIxU, rIxS, rIn, rInU, rAddU, rSlU, rLenU, rTupU, rListU, rRep, rEqU_ss, rEqU_ii, rEqU_bb, rEqU_r, rNeU_ss, rNeU_ii, rNeU_bb, rNeU_r, cxOf, L2.start, wipe, List.map_cons, List.map_nil, List.length_cons, List.length_nil, List.replicate, List.cons_append, List.nil_append, List.append_nil, Nat.reduceSub, Nat.reduceAdd, List.getElem?_cons_zero, List.getElem?_cons_succ, List.set_cons_zero, List.set_cons_succ, Option.some.injEq, exists_eq_left', exists_eq_left, exists_eq, exists_and_left, V.bl.injEq, V.int.injEq, V.str.injEq, V.ref.injEq, V.ty.injEq, reduceCtorEq, false_and, and_false, exists_false, false_or, or_false, true_and, and_true, if_true, if_false, Bool.false_eq_true, ite_true, ite_false, reduceIte, decide_true, decide_false, Bool.not_true, Bool.not_false, Bool.not_eq_true, Bool.true_and, Bool.false_and, Bool.and_true, Bool.and_false, List.cons.injEq, and_assoc])
local macro_rules | `(tactic| walk_at "rn") => `(tactic| try simp only [tSeq, tNext, tRet, tRetN, tIfS, tTest, tB, tAnd, tOr, tNot, tAndV, tOrV, tNotV, tOp, tUn, tC, tVar, tCons, tNil, tCall, tCB, tAsg, tDrop, tChain, tIf, tYes, tBreak, tCont, tNever, tFld, sFld, sFldAug, tMeth, tMake, tRaiseF, tMkF, tM1, tOwn2S, tOwnIxS, tXf, tRevL, tMethS, tCallS, tMethK1, tDNewK, tRevT, Ends.cut, tDGet, rNotN, tNGet, sNPut, tNNew, tTup, tLst, tSl, tPart, tNoPart, tPar, tBM, tBM0, tLenSetT, tAug, gName, gTup, gCons, gNil, gStar2, gFld, gSub, rI0, rI, rU, rAddU_ii, tFor_rng, tLc_rng, rRep, rEqU_ss, rEqU_ii, rEqU_bb, rEqU_r, rNeU_ss, rNeU_ii, rNeU_bb, rNeU_r, cxOf, L2.start, wipe, List.map_cons, List.map_nil, List.length_cons, List.length_nil, List.replicate, List.cons_append, List.nil_append, List.append_nil, Nat.reduceSub, Nat.reduceAdd, List.getElem?_cons_zero, List.getElem?_cons_succ, List.set_cons_zero, List.set_cons_succ, Option.some.injEq, exists_eq_left', exists_eq_left, exists_eq, exists_and_left, V.bl.injEq, V.int.injEq, V.str.injEq, V.ref.injEq, V.ty.injEq, reduceCtorEq, false_and, and_false, exists_false, false_or, or_false, true_and, and_true, if_true, if_false, Bool.false_eq_true, ite_true, ite_false, reduceIte, decide_true, decide_false, Bool.not_true, Bool.not_false, Bool.not_eq_true, Bool.true_and, Bool.false_and, Bool.and_true, Bool.and_false, List.cons.injEq, and_assoc])
local macro_rules | `(tactic| walk_at "lay") => `(tactic| (apply lay_new; intro l h qq s n e; rw [← qq]; clear qq))
section
variable {P : Program} {w : World} {K : PySem.W.Frag} {mg : Str → Option Value} {base : Heap} {Z : Ad}
theorem law_top {l : PySem.W.OpenLaw} {w : World} {mg : Str → Option Value} {fa : Addr} (T : TX l.prog K mg Z) (hmg : mg "law" = some (.ref fa)) :
    ∃ fd : FuncData, (∀ (s : Shared) (u : Value), BindsTo s fd { pos := [u] } [("script", u)]) ∧ ∀ base : Heap, K.In base → base.Ns mainGlobals mg → FnOk l.prog w K mg base (L2.CX l.prog w) 24 fa fd ["script"] (spTop K) := by
  obtain ⟨f, fd, hm, hf, _⟩ := T.f_law.ex
  have e := hmg.symm.trans hm
  cases e
  refine ⟨fd, fun s u => ?_, fun base _ _ => law_ok T hf⟩
  obtain ⟨oc, od, kV, doc, pm, an, cdv, ct, osl, e, _⟩ := hf.ex
  subst e
  exact .of_eq rfl
end
theorem walk_law {l : PySem.W.OpenLaw} {q : Program} {loose : List Str} {XP : (Str → Option Value) → Heap → Prop} {YP : World → Heap → Prop} {d : DefRec} {K : Params → PySem.W.Frag} (hn : l.most = some 63) (hdf : d.params.defaults = []) (hnm : d.name = "law")
    (hY : ∀ (w : World) (h : Heap), YP w h → (K w.params).In h)
    (F : ∀ (w : World) (mg : Str → Option Value) (h : Heap), (K w.params).In h → h.Ns mainGlobals mg → ∃ Z, TX l.prog (K w.params) mg Z) : PySem.W.WalkO q loose XP YP l.row.toRowW d [] (fun f vs => PySem.call f vs) :=
  L2.walk_of (n := 63) (k := 24) (x := "script") (CX := fun w => L2.CX l.prog w) (sp := fun w => spTop (K w.params)) hn (by decide) hdf ⟨rfl, by decide, by decide⟩ hY
    (fun w mg fa h KX G hmg => by
      obtain ⟨Z, T⟩ := F w mg h KX G
      rw [hnm] at hmg
      exact law_top T hmg)
    (fun _ _ a ns hl _ hS => ⟨a, ns, hl, rfl, hS, fun _ => rfl⟩) fun _ _ _ _ _ z => by
      obtain ⟨_, _, _, _, _, _, _, _, _, _, _, _, z⟩ := z
      exact z
end Ld

set_option Elab.async false
set_option linter.all false
set_option maxRecDepth 100000
set_option maxHeartbeats 4000000
namespace Ld
open PySem PySem.Spec PyProof.Rows L2
theorem tx_mk {P : Program} {K : PySem.W.Frag} {h : Heap} {mg : Str → Option Value} {z_DeskError z_NoDesks z_NoRule z_NoDeed z_NoTicket z_Effect z_Turn z_Works z_Book z_STATUSES z_EVENTS z_TEST_FORMS z_ACTION_FORMS z_DEED_FORMS z_NoRule_init z_NoDeed_init z_NoTicket_init : Addr} {t_LETTERS : Tok} {t_LONGEST_NAME : Tok} {t_MOST_DESKS : Tok} {t_MOST_TESTS : Tok} {t_MOST_ACTIONS : Tok} {t_MOST_DAYS : Tok} {t_MOST_EVENTS : Tok} {t_MOST_RULES : Tok} {nm_NoRule q_NoRule : Str} {N_NoRule : Addr} {bs_NoRule bm_NoRule : List Value} {sn_NoRule : List Str} {sub_NoRule : List Value} {ab_NoRule : Bool} {col_NoRule : Option Bool} {dd_NoRule : Option Addr} {k0_NoRule k1_NoRule k2_NoRule k3_NoRule k5_NoRule : Option Value} {oc_NoRule : Value} {od_NoRule : Option Addr} {doc_NoRule pm_NoRule : Value} {an_NoRule : Option Addr} {cda_NoRule cc_NoRule : Addr} {ct_NoRule : Value} {osl_NoRule : Array (Option Value)} {ccl_NoRule cl_NoRule : Value} {cdd_NoRule cld_NoRule : Option Addr} {vs_NoRule : Array Value} {ccs_NoRule csl_NoRule : Array (Option Value)} {file_NoRule : Str} {tf_NoRule : Tok} {nm_NoDeed q_NoDeed : Str} {N_NoDeed : Addr} {bs_NoDeed bm_NoDeed : List Value} {sn_NoDeed : List Str} {sub_NoDeed : List Value} {ab_NoDeed : Bool} {col_NoDeed : Option Bool} {dd_NoDeed : Option Addr} {k0_NoDeed k1_NoDeed k2_NoDeed k3_NoDeed k5_NoDeed : Option Value} {oc_NoDeed : Value} {od_NoDeed : Option Addr} {doc_NoDeed pm_NoDeed : Value} {an_NoDeed : Option Addr} {cda_NoDeed cc_NoDeed : Addr} {ct_NoDeed : Value} {osl_NoDeed : Array (Option Value)} {ccl_NoDeed cl_NoDeed : Value} {cdd_NoDeed cld_NoDeed : Option Addr} {vs_NoDeed : Array Value} {ccs_NoDeed csl_NoDeed : Array (Option Value)} {file_NoDeed : Str} {tf_NoDeed : Tok} {nm_NoTicket q_NoTicket : Str} {N_NoTicket : Addr} {bs_NoTicket bm_NoTicket : List Value} {sn_NoTicket : List Str} {sub_NoTicket : List Value} {ab_NoTicket : Bool} {col_NoTicket : Option Bool} {dd_NoTicket : Option Addr} {k0_NoTicket k1_NoTicket k2_NoTicket k3_NoTicket k5_NoTicket : Option Value} {oc_NoTicket : Value} {od_NoTicket : Option Addr} {doc_NoTicket pm_NoTicket : Value} {an_NoTicket : Option Addr} {cda_NoTicket cc_NoTicket : Addr} {ct_NoTicket : Value} {osl_NoTicket : Array (Option Value)} {ccl_NoTicket cl_NoTicket : Value} {cdd_NoTicket cld_NoTicket : Option Addr} {vs_NoTicket : Array Value} {ccs_NoTicket csl_NoTicket : Array (Option Value)} {file_NoTicket : Str} {tf_NoTicket : Tok} {f1 : Addr} {od1 an1 : Option Addr} {sl1 : Array (Option Value)} {oc1 kV1 dc1 pm1 cd1 ct1 : Value} {f2 : Addr} {od2 an2 : Option Addr} {sl2 : Array (Option Value)} {oc2 kV2 dc2 pm2 cd2 ct2 : Value} {f3 : Addr} {od3 an3 : Option Addr} {sl3 : Array (Option Value)} {oc3 kV3 dc3 pm3 cd3 ct3 : Value} {f4 : Addr} {od4 an4 : Option Addr} {sl4 : Array (Option Value)} {oc4 kV4 dc4 pm4 cd4 ct4 : Value} {f5 : Addr} {od5 an5 : Option Addr} {sl5 : Array (Option Value)} {oc5 kV5 dc5 pm5 cd5 ct5 : Value} {f6 : Addr} {od6 an6 : Option Addr} {sl6 : Array (Option Value)} {oc6 kV6 dc6 pm6 cd6 ct6 : Value} {f7 : Addr} {od7 an7 : Option Addr} {sl7 : Array (Option Value)} {oc7 kV7 dc7 pm7 cd7 ct7 : Value} {f8 : Addr} {od8 an8 : Option Addr} {sl8 : Array (Option Value)} {oc8 kV8 dc8 pm8 cd8 ct8 : Value} {f9 : Addr} {od9 an9 : Option Addr} {sl9 : Array (Option Value)} {oc9 kV9 dc9 pm9 cd9 ct9 : Value} {f10 : Addr} {od10 an10 : Option Addr} {sl10 : Array (Option Value)} {oc10 kV10 dc10 pm10 cd10 ct10 : Value} {f11 : Addr} {od11 an11 : Option Addr} {sl11 : Array (Option Value)} {oc11 kV11 dc11 pm11 cd11 ct11 : Value} {f12 : Addr} {od12 an12 : Option Addr} {sl12 : Array (Option Value)} {oc12 kV12 dc12 pm12 cd12 ct12 : Value} {f13 : Addr} {od13 an13 : Option Addr} {sl13 : Array (Option Value)} {oc13 kV13 dc13 pm13 cd13 ct13 : Value} {f14 : Addr} {od14 an14 : Option Addr} {sl14 : Array (Option Value)} {oc14 kV14 dc14 pm14 cd14 ct14 : Value} {f15 : Addr} {od15 an15 : Option Addr} {sl15 : Array (Option Value)} {oc15 kV15 dc15 pm15 cd15 ct15 : Value} {f16 : Addr} {od16 an16 : Option Addr} {sl16 : Array (Option Value)} {oc16 kV16 dc16 pm16 cd16 ct16 : Value} {f17 : Addr} {od17 an17 : Option Addr} {sl17 : Array (Option Value)} {oc17 kV17 dc17 pm17 cd17 ct17 : Value} {f18 : Addr} {od18 an18 : Option Addr} {sl18 : Array (Option Value)} {oc18 kV18 dc18 pm18 cd18 ct18 : Value} {f19 : Addr} {od19 an19 : Option Addr} {sl19 : Array (Option Value)} {oc19 kV19 dc19 pm19 cd19 ct19 : Value} {f20 : Addr} {od20 an20 : Option Addr} {sl20 : Array (Option Value)} {oc20 kV20 dc20 pm20 cd20 ct20 : Value} {f21 : Addr} {od21 an21 : Option Addr} {sl21 : Array (Option Value)} {oc21 kV21 dc21 pm21 cd21 ct21 : Value} {f22 : Addr} {od22 an22 : Option Addr} {sl22 : Array (Option Value)} {oc22 kV22 dc22 pm22 cd22 ct22 : Value} {f23 : Addr} {od23 an23 : Option Addr} {sl23 : Array (Option Value)} {oc23 kV23 dc23 pm23 cd23 ct23 : Value} {f24 : Addr} {od24 an24 : Option Addr} {sl24 : Array (Option Value)} {oc24 kV24 dc24 pm24 cd24 ct24 : Value} {f25 : Addr} {od25 an25 : Option Addr} {sl25 : Array (Option Value)} {oc25 kV25 dc25 pm25 cd25 ct25 : Value} {f26 : Addr} {od26 an26 : Option Addr} {sl26 : Array (Option Value)} {oc26 kV26 dc26 pm26 cd26 ct26 : Value} {f27 : Addr} {od27 an27 : Option Addr} {sl27 : Array (Option Value)} {oc27 kV27 dc27 pm27 cd27 ct27 : Value} {f28 : Addr} {od28 an28 : Option Addr} {sl28 : Array (Option Value)} {oc28 kV28 dc28 pm28 cd28 ct28 : Value} {f29 : Addr} {od29 an29 : Option Addr} {sl29 : Array (Option Value)} {oc29 kV29 dc29 pm29 cd29 ct29 : Value} {f30 : Addr} {od30 an30 : Option Addr} {sl30 : Array (Option Value)} {oc30 kV30 dc30 pm30 cd30 ct30 : Value} {f31 : Addr} {od31 an31 : Option Addr} {sl31 : Array (Option Value)} {oc31 kV31 dc31 pm31 cd31 ct31 : Value} {f32 : Addr} {od32 an32 : Option Addr} {sl32 : Array (Option Value)} {oc32 kV32 dc32 pm32 cd32 ct32 : Value} {f33 : Addr} {od33 an33 : Option Addr} {sl33 : Array (Option Value)} {oc33 kV33 dc33 pm33 cd33 ct33 : Value} {f34 : Addr} {od34 an34 : Option Addr} {sl34 : Array (Option Value)} {oc34 kV34 dc34 pm34 cd34 ct34 : Value} {f35 : Addr} {od35 an35 : Option Addr} {sl35 : Array (Option Value)} {oc35 kV35 dc35 pm35 cd35 ct35 : Value} {f36 : Addr} {od36 an36 : Option Addr} {sl36 : Array (Option Value)} {oc36 kV36 dc36 pm36 cd36 ct36 : Value} {f37 : Addr} {od37 an37 : Option Addr} {sl37 : Array (Option Value)} {oc37 kV37 dc37 pm37 cd37 ct37 : Value} {f38 : Addr} {od38 an38 : Option Addr} {sl38 : Array (Option Value)} {oc38 kV38 dc38 pm38 cd38 ct38 : Value} {f39 : Addr} {od39 an39 : Option Addr} {sl39 : Array (Option Value)} {oc39 kV39 dc39 pm39 cd39 ct39 : Value} {f40 : Addr} {od40 an40 : Option Addr} {sl40 : Array (Option Value)} {oc40 kV40 dc40 pm40 cd40 ct40 : Value} {f41 : Addr} {od41 an41 : Option Addr} {sl41 : Array (Option Value)} {oc41 kV41 dc41 pm41 cd41 ct41 : Value} {f42 : Addr} {od42 an42 : Option Addr} {sl42 : Array (Option Value)} {oc42 kV42 dc42 pm42 cd42 ct42 : Value} {f43 : Addr} {od43 an43 : Option Addr} {sl43 : Array (Option Value)} {oc43 kV43 dc43 pm43 cd43 ct43 : Value} {f44 : Addr} {od44 an44 : Option Addr} {sl44 : Array (Option Value)} {oc44 kV44 dc44 pm44 cd44 ct44 : Value} {f45 : Addr} {od45 an45 : Option Addr} {sl45 : Array (Option Value)} {oc45 kV45 dc45 pm45 cd45 ct45 : Value} {f46 : Addr} {od46 an46 : Option Addr} {sl46 : Array (Option Value)} {oc46 kV46 dc46 pm46 cd46 ct46 : Value} {f47 : Addr} {od47 an47 : Option Addr} {sl47 : Array (Option Value)} {oc47 kV47 dc47 pm47 cd47 ct47 : Value} {f48 : Addr} {od48 an48 : Option Addr} {sl48 : Array (Option Value)} {oc48 kV48 dc48 pm48 cd48 ct48 : Value} {f49 : Addr} {od49 an49 : Option Addr} {sl49 : Array (Option Value)} {oc49 kV49 dc49 pm49 cd49 ct49 : Value} {f50 : Addr} {od50 an50 : Option Addr} {sl50 : Array (Option Value)} {oc50 kV50 dc50 pm50 cd50 ct50 : Value} {f51 : Addr} {od51 an51 : Option Addr} {sl51 : Array (Option Value)} {oc51 kV51 dc51 pm51 cd51 ct51 : Value} {f52 : Addr} {od52 an52 : Option Addr} {sl52 : Array (Option Value)} {oc52 kV52 dc52 pm52 cd52 ct52 : Value} {f53 : Addr} {od53 an53 : Option Addr} {sl53 : Array (Option Value)} {oc53 kV53 dc53 pm53 cd53 ct53 : Value} {f54 : Addr} {od54 an54 : Option Addr} {sl54 : Array (Option Value)} {oc54 kV54 dc54 pm54 cd54 ct54 : Value} {f55 : Addr} {od55 an55 : Option Addr} {sl55 : Array (Option Value)} {oc55 kV55 dc55 pm55 cd55 ct55 : Value} {f56 : Addr} {od56 an56 : Option Addr} {sl56 : Array (Option Value)} {oc56 kV56 dc56 pm56 cd56 ct56 : Value} {f57 : Addr} {od57 an57 : Option Addr} {sl57 : Array (Option Value)} {oc57 kV57 dc57 pm57 cd57 ct57 : Value} {f58 : Addr} {od58 an58 : Option Addr} {sl58 : Array (Option Value)} {oc58 kV58 dc58 pm58 cd58 ct58 : Value} {f59 : Addr} {od59 an59 : Option Addr} {sl59 : Array (Option Value)} {oc59 kV59 dc59 pm59 cd59 ct59 : Value} (X : K.In h) (G : h.Ns mainGlobals mg)
    (b_ValueError : PySem.W.nsIn K mainGlobals "ValueError" = some none)
    (b_abs : PySem.W.nsIn K mainGlobals "abs" = some none)
    (b_all : PySem.W.nsIn K mainGlobals "all" = some none)
    (b_bool : PySem.W.nsIn K mainGlobals "bool" = some none)
    (b_enumerate : PySem.W.nsIn K mainGlobals "enumerate" = some none)
    (b_int : PySem.W.nsIn K mainGlobals "int" = some none)
    (b_isinstance : PySem.W.nsIn K mainGlobals "isinstance" = some none)
    (b_len : PySem.W.nsIn K mainGlobals "len" = some none)
    (b_list : PySem.W.nsIn K mainGlobals "list" = some none)
    (b_max : PySem.W.nsIn K mainGlobals "max" = some none)
    (b_min : PySem.W.nsIn K mainGlobals "min" = some none)
    (b_range : PySem.W.nsIn K mainGlobals "range" = some none)
    (b_set : PySem.W.nsIn K mainGlobals "set" = some none)
    (b_str : PySem.W.nsIn K mainGlobals "str" = some none)
    (b_super : PySem.W.nsIn K mainGlobals "super" = some none)
    (b_tuple : PySem.W.nsIn K mainGlobals "tuple" = some none)
    (b_zip : PySem.W.nsIn K mainGlobals "zip" = some none)
    (g_LETTERS : PySem.W.nsIn K mainGlobals "LETTERS" = some (some (.str "abcdefghijklmnopqrstuvwxyz" t_LETTERS)))
    (g_LONGEST_NAME : PySem.W.nsIn K mainGlobals "LONGEST_NAME" = some (some (.int 8 t_LONGEST_NAME)))
    (g_MOST_DESKS : PySem.W.nsIn K mainGlobals "MOST_DESKS" = some (some (.int 4 t_MOST_DESKS)))
    (g_MOST_TESTS : PySem.W.nsIn K mainGlobals "MOST_TESTS" = some (some (.int 4 t_MOST_TESTS)))
    (g_MOST_ACTIONS : PySem.W.nsIn K mainGlobals "MOST_ACTIONS" = some (some (.int 4 t_MOST_ACTIONS)))
    (g_MOST_DAYS : PySem.W.nsIn K mainGlobals "MOST_DAYS" = some (some (.int 30 t_MOST_DAYS)))
    (g_STATUSES : PySem.W.nsIn K mainGlobals "STATUSES" = some (some (.ref z_STATUSES)))
    (v_STATUSES : denK K 4 (.ref z_STATUSES) = some (.tuple [.str "new", .str "open", .str "waiting", .str "closed"]))
    (g_EVENTS : PySem.W.nsIn K mainGlobals "EVENTS" = some (some (.ref z_EVENTS)))
    (v_EVENTS : denK K 4 (.ref z_EVENTS) = some (.tuple [.str "letter", .str "answer", .str "day", .str "moved", .str "status", .str "replied"]))
    (g_TEST_FORMS : PySem.W.nsIn K mainGlobals "TEST_FORMS" = some (some (.ref z_TEST_FORMS)))
    (v_TEST_FORMS : denK K 4 (.ref z_TEST_FORMS) = some (.tuple [.tuple [.str "status", .str "status", .str "wanted"], .tuple [.str "desk", .str "desk", .str "wanted"], .tuple [.str "answered", .str "wanted"], .tuple [.str "marked", .str "wanted"], .tuple [.str "days", .str "days"]]))
    (g_ACTION_FORMS : PySem.W.nsIn K mainGlobals "ACTION_FORMS" = some (some (.ref z_ACTION_FORMS)))
    (v_ACTION_FORMS : denK K 4 (.ref z_ACTION_FORMS) = some (.tuple [.tuple [.str "status", .str "status"], .tuple [.str "desk", .str "desk"], .tuple [.str "reply"], .tuple [.str "mark", .str "wanted"], .tuple [.str "stop"]]))
    (g_DEED_FORMS : PySem.W.nsIn K mainGlobals "DEED_FORMS" = some (some (.ref z_DEED_FORMS)))
    (v_DEED_FORMS : denK K 4 (.ref z_DEED_FORMS) = some (.tuple [.tuple [.str "letter"], .tuple [.str "answer"], .tuple [.str "day"], .tuple [.str "hand", .str "desk"], .tuple [.str "set", .str "status"]]))
    (g_MOST_EVENTS : PySem.W.nsIn K mainGlobals "MOST_EVENTS" = some (some (.int 50 t_MOST_EVENTS)))
    (g_MOST_RULES : PySem.W.nsIn K mainGlobals "MOST_RULES" = some (some (.int 8 t_MOST_RULES)))
    (c_DeskError : PySem.W.nsIn K mainGlobals "DeskError" = some (some (.ref z_DeskError)))
    (c_NoDesks : PySem.W.nsIn K mainGlobals "NoDesks" = some (some (.ref z_NoDesks)))
    (c_NoRule : PySem.W.nsIn K mainGlobals "NoRule" = some (some (.ref z_NoRule)))
    (c_NoDeed : PySem.W.nsIn K mainGlobals "NoDeed" = some (some (.ref z_NoDeed)))
    (c_NoTicket : PySem.W.nsIn K mainGlobals "NoTicket" = some (some (.ref z_NoTicket)))
    (c_Effect : PySem.W.nsIn K mainGlobals "Effect" = some (some (.ref z_Effect)))
    (c_Turn : PySem.W.nsIn K mainGlobals "Turn" = some (some (.ref z_Turn)))
    (c_Works : PySem.W.nsIn K mainGlobals "Works" = some (some (.ref z_Works)))
    (c_Book : PySem.W.nsIn K mainGlobals "Book" = some (some (.ref z_Book)))
    (tg_class : PySem.W.specialIn K (.builtin "object.__class__") "__get__" = some (some (.builtin "getset_descriptor.__get__")))
    (tt_class : PySem.W.takesIn K (.builtin "object.__class__") = some true)
    (pg_Effect : PySem.W.plainGet K z_Effect Str.empty = true)
    (hd_Effect : PySem.W.hasDictIn K z_Effect = true)
    (po_Effect : PySem.W.plainOver K z_Effect = true)
    (sa_Effect : PySem.W.findIn K (.ref z_Effect) "__setattr__" = some (some (.builtin "object.__setattr__")))
    (sf_Effect : PySem.W.selfFirst K z_Effect = true)
    (nf_Effect : PySem.W.notFirst K z_Effect (.ref z_Effect) = true)
    (ty_Effect : PySem.W.findIn K (.ref z_Effect) "__class__" = some (some (.builtin "object.__class__")))
    (mo_Effect : PySem.W.mroIn K z_Effect (.type "object") = some true)
    (na_Effect_events : PySem.W.findIn K (.ref z_Effect) "events" = some none)
    (na_Effect_acted : PySem.W.findIn K (.ref z_Effect) "acted" = some none)
    (na_Effect_sent : PySem.W.findIn K (.ref z_Effect) "sent" = some none)
    (na_Effect_closed_by_rule : PySem.W.findIn K (.ref z_Effect) "closed_by_rule" = some none)
    (na_Effect_sent_twice : PySem.W.findIn K (.ref z_Effect) "sent_twice" = some none)
    (na_Effect_status : PySem.W.findIn K (.ref z_Effect) "status" = some none)
    (na_Effect_desk : PySem.W.findIn K (.ref z_Effect) "desk" = some none)
    (na_Effect_answered : PySem.W.findIn K (.ref z_Effect) "answered" = some none)
    (na_Effect_days : PySem.W.findIn K (.ref z_Effect) "days" = some none)
    (na_Effect_marked : PySem.W.findIn K (.ref z_Effect) "marked" = some none)
    (pg_Turn : PySem.W.plainGet K z_Turn Str.empty = true)
    (hd_Turn : PySem.W.hasDictIn K z_Turn = true)
    (po_Turn : PySem.W.plainOver K z_Turn = true)
    (sa_Turn : PySem.W.findIn K (.ref z_Turn) "__setattr__" = some (some (.builtin "object.__setattr__")))
    (sf_Turn : PySem.W.selfFirst K z_Turn = true)
    (nf_Turn : PySem.W.notFirst K z_Turn (.ref z_Turn) = true)
    (ty_Turn : PySem.W.findIn K (.ref z_Turn) "__class__" = some (some (.builtin "object.__class__")))
    (mo_Turn : PySem.W.mroIn K z_Turn (.type "object") = some true)
    (na_Turn_event : PySem.W.findIn K (.ref z_Turn) "event" = some none)
    (na_Turn_behind : PySem.W.findIn K (.ref z_Turn) "behind" = some none)
    (na_Turn_acted : PySem.W.findIn K (.ref z_Turn) "acted" = some none)
    (na_Turn_sent : PySem.W.findIn K (.ref z_Turn) "sent" = some none)
    (na_Turn_endless : PySem.W.findIn K (.ref z_Turn) "endless" = some none)
    (na_Turn_closed_by_rule : PySem.W.findIn K (.ref z_Turn) "closed_by_rule" = some none)
    (na_Turn_sent_twice : PySem.W.findIn K (.ref z_Turn) "sent_twice" = some none)
    (na_Turn_kinds : PySem.W.findIn K (.ref z_Turn) "kinds" = some none)
    (pg_Works : PySem.W.plainGet K z_Works Str.empty = true)
    (hd_Works : PySem.W.hasDictIn K z_Works = true)
    (po_Works : PySem.W.plainOver K z_Works = true)
    (sa_Works : PySem.W.findIn K (.ref z_Works) "__setattr__" = some (some (.builtin "object.__setattr__")))
    (sf_Works : PySem.W.selfFirst K z_Works = true)
    (nf_Works : PySem.W.notFirst K z_Works (.ref z_Works) = true)
    (ty_Works : PySem.W.findIn K (.ref z_Works) "__class__" = some (some (.builtin "object.__class__")))
    (mo_Works : PySem.W.mroIn K z_Works (.type "object") = some true)
    (na_Works_rulebook : PySem.W.findIn K (.ref z_Works) "rulebook" = some none)
    (na_Works__rules_at : PySem.W.findIn K (.ref z_Works) "_rules_at" = some none)
    (na_Works__effects : PySem.W.findIn K (.ref z_Works) "_effects" = some none)
    (pg_Book : PySem.W.plainGet K z_Book Str.empty = true)
    (hd_Book : PySem.W.hasDictIn K z_Book = true)
    (po_Book : PySem.W.plainOver K z_Book = true)
    (sa_Book : PySem.W.findIn K (.ref z_Book) "__setattr__" = some (some (.builtin "object.__setattr__")))
    (sf_Book : PySem.W.selfFirst K z_Book = true)
    (nf_Book : PySem.W.notFirst K z_Book (.ref z_Book) = true)
    (ty_Book : PySem.W.findIn K (.ref z_Book) "__class__" = some (some (.builtin "object.__class__")))
    (mo_Book : PySem.W.mroIn K z_Book (.type "object") = some true)
    (na_Book__desks : PySem.W.findIn K (.ref z_Book) "_desks" = some none)
    (na_Book__rules : PySem.W.findIn K (.ref z_Book) "_rules" = some none)
    (qa_NoDeed : PySem.W.findIn K (.ref z_NoDeed) "__class__" = some (some (.builtin "object.__class__")))
    (qb_NoDeed : PySem.W.mroIn K z_NoDeed (.type "object") = some true)
    (kj_NoDeed_NoTicket : PySem.W.kitOne K (.ref z_NoDeed) (.ref z_NoTicket) = some false)
    (kj_NoDeed_ValueError : PySem.W.kitOne K (.ref z_NoDeed) (.type "ValueError") = some true)
    (kj_NoDeed_DeskError : PySem.W.kitOne K (.ref z_NoDeed) (.ref z_DeskError) = some true)
    (kj_NoDeed_NoDeed : PySem.W.kitOne K (.ref z_NoDeed) (.ref z_NoDeed) = some true)
    (qa_NoTicket : PySem.W.findIn K (.ref z_NoTicket) "__class__" = some (some (.builtin "object.__class__")))
    (qb_NoTicket : PySem.W.mroIn K z_NoTicket (.type "object") = some true)
    (kj_NoTicket_NoTicket : PySem.W.kitOne K (.ref z_NoTicket) (.ref z_NoTicket) = some true)
    (kj_NoTicket_ValueError : PySem.W.kitOne K (.ref z_NoTicket) (.type "ValueError") = some true)
    (kj_NoTicket_DeskError : PySem.W.kitOne K (.ref z_NoTicket) (.ref z_DeskError) = some true)
    (kj_NoTicket_NoDeed : PySem.W.kitOne K (.ref z_NoTicket) (.ref z_NoDeed) = some false)
    (xn_NoTicket_NoDeed : PySem.W.exmOne K (.ref z_NoTicket) (.ref z_NoDeed) = some false)
    (xn_NoDeed_NoTicket : PySem.W.exmOne K (.ref z_NoDeed) (.ref z_NoTicket) = some false)
    (xn_NoDeed_DeskError : PySem.W.exmOne K (.ref z_NoDeed) (.ref z_DeskError) = some true)
    (xn_NoTicket_DeskError : PySem.W.exmOne K (.ref z_NoTicket) (.ref z_DeskError) = some true)
    (xm_DeskError : PySem.W.exmOne K (.ref z_DeskError) (.ref z_DeskError) = some true)
    (xq_DeskError : PySem.W.excIn K z_DeskError PySem.HandSPX.veTail "ValueError.__new__" = true)
    (xk_DeskError : PySem.W.keepIn K (.ref z_DeskError) = true)
    (xe_DeskError : PySem.W.subIn K (.ref z_DeskError) (.type "BaseException") = some true)
    (xt_DeskError : PySem.W.typeIn K (.ref z_DeskError) = some (.type "type"))
    (xm_NoDesks : PySem.W.exmOne K (.ref z_NoDesks) (.ref z_NoDesks) = some true)
    (xq_NoDesks : PySem.W.excIn K z_NoDesks PySem.HandSPX.veTail "ValueError.__new__" = true)
    (xk_NoDesks : PySem.W.keepIn K (.ref z_NoDesks) = true)
    (xe_NoDesks : PySem.W.subIn K (.ref z_NoDesks) (.type "BaseException") = some true)
    (xt_NoDesks : PySem.W.typeIn K (.ref z_NoDesks) = some (.type "type"))
    (xm_NoRule : PySem.W.exmOne K (.ref z_NoRule) (.ref z_NoRule) = some true)
    (xc_NoRule : K.lookup z_NoRule = some (excClassObj nm_NoRule q_NoRule z_NoRule N_NoRule bs_NoRule bm_NoRule true sn_NoRule sub_NoRule ab_NoRule col_NoRule dd_NoRule k0_NoRule k1_NoRule k2_NoRule k3_NoRule k5_NoRule "ValueError.__new__"))
    (xr_NoRule : PySem.HandSPX.refsVE bm_NoRule = true)
    (xinI_NoRule : PySem.W.excInitIn K z_NoRule PySem.HandSPX.veTail "ValueError.__new__" = true)
    (xsa_NoRule : PySem.W.findIn K (.ref z_NoRule) "__setattr__" = some (some (.builtin "object.__setattr__")))
    (xga_NoRule : PySem.W.findIn K (.ref z_NoRule) "__getattribute__" = some (some (.builtin "BaseException.__getattribute__")))
    (xgg_NoRule : PySem.W.findIn K (.ref z_NoRule) "__getattr__" = some none)
    (xnoN_NoRule : PySem.W.findIn K (.ref z_NoRule) "index" = some none)
    (xiC_NoRule : PySem.W.findIn K (.ref z_NoRule) "__init__" = some (some (.ref z_NoRule_init)))
    (xtC_NoRule : PySem.W.typeIn K (.ref z_NoRule_init) = some (.type "function"))
    (xkC_NoRule : PySem.W.keepIn K (.ref z_NoRule) = true)
    (xexC_NoRule : PySem.W.subIn K (.ref z_NoRule) (.type "BaseException") = some true)
    (xexV_NoRule : PySem.W.subIn K (.ref z_NoRule) (.type "ValueError") = some true)
    (xtyC_NoRule : PySem.W.typeIn K (.ref z_NoRule) = some (.type "type"))
    (xhdC_NoRule : PySem.W.hasDictIn K z_NoRule = true)
    (xmro_NoRule : PySem.W.mroIn K z_NoRule (.ref z_NoRule) = some true)
    (xabove_NoRule : PySem.W.ks_superIn K z_NoRule z_NoRule "__init__" = some (some (.builtin "ValueError.__init__")))
    (xf_NoRule : K.lookup z_NoRule_init = some ⟨oc_NoRule, od_NoRule, .func (PySem.W.ksFn "__init__" "NoRule.__init__" (LowIndex.tA ⟨11, 17, 11, 21⟩ ⟨11, 23, 11, 28⟩) (LowIndex.tB "there is no such rule" ⟨12, 8, 12, 13⟩ ⟨12, 8, 12, 15⟩ ⟨12, 8, 12, 24⟩ ⟨12, 25, 12, 48⟩ ⟨12, 8, 12, 49⟩ ⟨12, 8, 12, 49⟩ ⟨13, 8, 13, 12⟩ ⟨13, 8, 13, 18⟩ ⟨13, 21, 13, 26⟩ ⟨13, 8, 13, 26⟩) LowIndex.tS .none .none doc_NoRule pm_NoRule an_NoRule (.ref cda_NoRule) ct_NoRule cc_NoRule), osl_NoRule⟩)
    (xd_NoRule : PySem.W.codeIn K (.ref cda_NoRule) "NoRule.__init__" = true)
    (xa_NoRule : K.lookup cda_NoRule = some ⟨ccl_NoRule, cdd_NoRule, .fields vs_NoRule, ccs_NoRule⟩)
    (xv_NoRule : vs_NoRule[2]? = some (.str file_NoRule tf_NoRule))
    (xw_NoRule : ((P.main.file : Str) == file_NoRule) = true)
    (xx_NoRule : K.lookup cc_NoRule = some ⟨cl_NoRule, cld_NoRule, .cell (some (.ref z_NoRule)), csl_NoRule⟩)
    (xm_NoDeed : PySem.W.exmOne K (.ref z_NoDeed) (.ref z_NoDeed) = some true)
    (xc_NoDeed : K.lookup z_NoDeed = some (excClassObj nm_NoDeed q_NoDeed z_NoDeed N_NoDeed bs_NoDeed bm_NoDeed true sn_NoDeed sub_NoDeed ab_NoDeed col_NoDeed dd_NoDeed k0_NoDeed k1_NoDeed k2_NoDeed k3_NoDeed k5_NoDeed "ValueError.__new__"))
    (xr_NoDeed : PySem.HandSPX.refsVE bm_NoDeed = true)
    (xinI_NoDeed : PySem.W.excInitIn K z_NoDeed PySem.HandSPX.veTail "ValueError.__new__" = true)
    (xsa_NoDeed : PySem.W.findIn K (.ref z_NoDeed) "__setattr__" = some (some (.builtin "object.__setattr__")))
    (xga_NoDeed : PySem.W.findIn K (.ref z_NoDeed) "__getattribute__" = some (some (.builtin "BaseException.__getattribute__")))
    (xgg_NoDeed : PySem.W.findIn K (.ref z_NoDeed) "__getattr__" = some none)
    (xnoN_NoDeed : PySem.W.findIn K (.ref z_NoDeed) "index" = some none)
    (xiC_NoDeed : PySem.W.findIn K (.ref z_NoDeed) "__init__" = some (some (.ref z_NoDeed_init)))
    (xtC_NoDeed : PySem.W.typeIn K (.ref z_NoDeed_init) = some (.type "function"))
    (xkC_NoDeed : PySem.W.keepIn K (.ref z_NoDeed) = true)
    (xexC_NoDeed : PySem.W.subIn K (.ref z_NoDeed) (.type "BaseException") = some true)
    (xexV_NoDeed : PySem.W.subIn K (.ref z_NoDeed) (.type "ValueError") = some true)
    (xtyC_NoDeed : PySem.W.typeIn K (.ref z_NoDeed) = some (.type "type"))
    (xhdC_NoDeed : PySem.W.hasDictIn K z_NoDeed = true)
    (xmro_NoDeed : PySem.W.mroIn K z_NoDeed (.ref z_NoDeed) = some true)
    (xabove_NoDeed : PySem.W.ks_superIn K z_NoDeed z_NoDeed "__init__" = some (some (.builtin "ValueError.__init__")))
    (xf_NoDeed : K.lookup z_NoDeed_init = some ⟨oc_NoDeed, od_NoDeed, .func (PySem.W.ksFn "__init__" "NoDeed.__init__" (LowIndex.tA ⟨16, 17, 16, 21⟩ ⟨16, 23, 16, 28⟩) (LowIndex.tB "this is not a deed" ⟨17, 8, 17, 13⟩ ⟨17, 8, 17, 15⟩ ⟨17, 8, 17, 24⟩ ⟨17, 25, 17, 45⟩ ⟨17, 8, 17, 46⟩ ⟨17, 8, 17, 46⟩ ⟨18, 8, 18, 12⟩ ⟨18, 8, 18, 18⟩ ⟨18, 21, 18, 26⟩ ⟨18, 8, 18, 26⟩) LowIndex.tS .none .none doc_NoDeed pm_NoDeed an_NoDeed (.ref cda_NoDeed) ct_NoDeed cc_NoDeed), osl_NoDeed⟩)
    (xd_NoDeed : PySem.W.codeIn K (.ref cda_NoDeed) "NoDeed.__init__" = true)
    (xa_NoDeed : K.lookup cda_NoDeed = some ⟨ccl_NoDeed, cdd_NoDeed, .fields vs_NoDeed, ccs_NoDeed⟩)
    (xv_NoDeed : vs_NoDeed[2]? = some (.str file_NoDeed tf_NoDeed))
    (xw_NoDeed : ((P.main.file : Str) == file_NoDeed) = true)
    (xx_NoDeed : K.lookup cc_NoDeed = some ⟨cl_NoDeed, cld_NoDeed, .cell (some (.ref z_NoDeed)), csl_NoDeed⟩)
    (xm_NoTicket : PySem.W.exmOne K (.ref z_NoTicket) (.ref z_NoTicket) = some true)
    (xc_NoTicket : K.lookup z_NoTicket = some (excClassObj nm_NoTicket q_NoTicket z_NoTicket N_NoTicket bs_NoTicket bm_NoTicket true sn_NoTicket sub_NoTicket ab_NoTicket col_NoTicket dd_NoTicket k0_NoTicket k1_NoTicket k2_NoTicket k3_NoTicket k5_NoTicket "ValueError.__new__"))
    (xr_NoTicket : PySem.HandSPX.refsVE bm_NoTicket = true)
    (xinI_NoTicket : PySem.W.excInitIn K z_NoTicket PySem.HandSPX.veTail "ValueError.__new__" = true)
    (xsa_NoTicket : PySem.W.findIn K (.ref z_NoTicket) "__setattr__" = some (some (.builtin "object.__setattr__")))
    (xga_NoTicket : PySem.W.findIn K (.ref z_NoTicket) "__getattribute__" = some (some (.builtin "BaseException.__getattribute__")))
    (xgg_NoTicket : PySem.W.findIn K (.ref z_NoTicket) "__getattr__" = some none)
    (xnoN_NoTicket : PySem.W.findIn K (.ref z_NoTicket) "index" = some none)
    (xiC_NoTicket : PySem.W.findIn K (.ref z_NoTicket) "__init__" = some (some (.ref z_NoTicket_init)))
    (xtC_NoTicket : PySem.W.typeIn K (.ref z_NoTicket_init) = some (.type "function"))
    (xkC_NoTicket : PySem.W.keepIn K (.ref z_NoTicket) = true)
    (xexC_NoTicket : PySem.W.subIn K (.ref z_NoTicket) (.type "BaseException") = some true)
    (xexV_NoTicket : PySem.W.subIn K (.ref z_NoTicket) (.type "ValueError") = some true)
    (xtyC_NoTicket : PySem.W.typeIn K (.ref z_NoTicket) = some (.type "type"))
    (xhdC_NoTicket : PySem.W.hasDictIn K z_NoTicket = true)
    (xmro_NoTicket : PySem.W.mroIn K z_NoTicket (.ref z_NoTicket) = some true)
    (xabove_NoTicket : PySem.W.ks_superIn K z_NoTicket z_NoTicket "__init__" = some (some (.builtin "ValueError.__init__")))
    (xf_NoTicket : K.lookup z_NoTicket_init = some ⟨oc_NoTicket, od_NoTicket, .func (PySem.W.ksFn "__init__" "NoTicket.__init__" (LowIndex.tA ⟨21, 17, 21, 21⟩ ⟨21, 23, 21, 28⟩) (LowIndex.tB "there is no ticket yet" ⟨22, 8, 22, 13⟩ ⟨22, 8, 22, 15⟩ ⟨22, 8, 22, 24⟩ ⟨22, 25, 22, 49⟩ ⟨22, 8, 22, 50⟩ ⟨22, 8, 22, 50⟩ ⟨23, 8, 23, 12⟩ ⟨23, 8, 23, 18⟩ ⟨23, 21, 23, 26⟩ ⟨23, 8, 23, 26⟩) LowIndex.tS .none .none doc_NoTicket pm_NoTicket an_NoTicket (.ref cda_NoTicket) ct_NoTicket cc_NoTicket), osl_NoTicket⟩)
    (xd_NoTicket : PySem.W.codeIn K (.ref cda_NoTicket) "NoTicket.__init__" = true)
    (xa_NoTicket : K.lookup cda_NoTicket = some ⟨ccl_NoTicket, cdd_NoTicket, .fields vs_NoTicket, ccs_NoTicket⟩)
    (xv_NoTicket : vs_NoTicket[2]? = some (.str file_NoTicket tf_NoTicket))
    (xw_NoTicket : ((P.main.file : Str) == file_NoTicket) = true)
    (xx_NoTicket : K.lookup cc_NoTicket = some ⟨cl_NoTicket, cld_NoTicket, .cell (some (.ref z_NoTicket)), csl_NoTicket⟩)
    (opq : PySem.W.nsIn K cStatics "thirdparty.any" = some none)
    (htop : (P.main.scope.names.lookup ("super" : Str)).isSome = false)
    (fa1 : PySem.W.nsIn K mainGlobals "_wall" = some (some (.ref f1)))
    (fl1 : K.lookup f1 = some ⟨oc1, od1, .func (PySem.W.fnOf "_wall" "_wall" (defArgs s__wall) (defBody s__wall) (defScope s__wall) .none kV1 dc1 pm1 an1 cd1 ct1), sl1⟩)
    (fc1 : PySem.W.codeIn K cd1 "_wall" = true)
    (fk1 : PySem.W.keepIn K (.ref f1) = true)
    (fa2 : PySem.W.nsIn K mainGlobals "is_whole" = some (some (.ref f2)))
    (fl2 : K.lookup f2 = some ⟨oc2, od2, .func (PySem.W.fnOf "is_whole" "is_whole" (defArgs s_is_whole) (defBody s_is_whole) (defScope s_is_whole) .none kV2 dc2 pm2 an2 cd2 ct2), sl2⟩)
    (fc2 : PySem.W.codeIn K cd2 "is_whole" = true)
    (fk2 : PySem.W.keepIn K (.ref f2) = true)
    (fa3 : PySem.W.nsIn K mainGlobals "is_name" = some (some (.ref f3)))
    (fl3 : K.lookup f3 = some ⟨oc3, od3, .func (PySem.W.fnOf "is_name" "is_name" (defArgs s_is_name) (defBody s_is_name) (defScope s_is_name) .none kV3 dc3 pm3 an3 cd3 ct3), sl3⟩)
    (fc3 : PySem.W.codeIn K cd3 "is_name" = true)
    (fk3 : PySem.W.keepIn K (.ref f3) = true)
    (fa4 : PySem.W.nsIn K mainGlobals "are_desks" = some (some (.ref f4)))
    (fl4 : K.lookup f4 = some ⟨oc4, od4, .func (PySem.W.fnOf "are_desks" "are_desks" (defArgs s_are_desks) (defBody s_are_desks) (defScope s_are_desks) .none kV4 dc4 pm4 an4 cd4 ct4), sl4⟩)
    (fc4 : PySem.W.codeIn K cd4 "are_desks" = true)
    (fk4 : PySem.W.keepIn K (.ref f4) = true)
    (fa5 : PySem.W.nsIn K mainGlobals "is_rule" = some (some (.ref f5)))
    (fl5 : K.lookup f5 = some ⟨oc5, od5, .func (PySem.W.fnOf "is_rule" "is_rule" (defArgs s_is_rule) (defBody s_is_rule) (defScope s_is_rule) .none kV5 dc5 pm5 an5 cd5 ct5), sl5⟩)
    (fc5 : PySem.W.codeIn K cd5 "is_rule" = true)
    (fk5 : PySem.W.keepIn K (.ref f5) = true)
    (fa6 : PySem.W.nsIn K mainGlobals "is_deed" = some (some (.ref f6)))
    (fl6 : K.lookup f6 = some ⟨oc6, od6, .func (PySem.W.fnOf "is_deed" "is_deed" (defArgs s_is_deed) (defBody s_is_deed) (defScope s_is_deed) .none kV6 dc6 pm6 an6 cd6 ct6), sl6⟩)
    (fc6 : PySem.W.codeIn K cd6 "is_deed" = true)
    (fk6 : PySem.W.keepIn K (.ref f6) = true)
    (fa7 : PySem.W.nsIn K mainGlobals "wrong_deed" = some (some (.ref f7)))
    (fl7 : K.lookup f7 = some ⟨oc7, od7, .func (PySem.W.fnOf "wrong_deed" "wrong_deed" (defArgs s_wrong_deed) (defBody s_wrong_deed) (defScope s_wrong_deed) .none kV7 dc7 pm7 an7 cd7 ct7), sl7⟩)
    (fc7 : PySem.W.codeIn K cd7 "wrong_deed" = true)
    (fk7 : PySem.W.keepIn K (.ref f7) = true)
    (fa8 : PySem.W.nsIn K mainGlobals "is_index" = some (some (.ref f8)))
    (fl8 : K.lookup f8 = some ⟨oc8, od8, .func (PySem.W.fnOf "is_index" "is_index" (defArgs s_is_index) (defBody s_is_index) (defScope s_is_index) .none kV8 dc8 pm8 an8 cd8 ct8), sl8⟩)
    (fc8 : PySem.W.codeIn K cd8 "is_index" = true)
    (fk8 : PySem.W.keepIn K (.ref f8) = true)
    (fa9 : PySem.W.nsIn K mainGlobals "is_word" = some (some (.ref f9)))
    (fl9 : K.lookup f9 = some ⟨oc9, od9, .func (PySem.W.fnOf "is_word" "is_word" (defArgs s_is_word) (defBody s_is_word) (defScope s_is_word) .none kV9 dc9 pm9 an9 cd9 ct9), sl9⟩)
    (fc9 : PySem.W.codeIn K cd9 "is_word" = true)
    (fk9 : PySem.W.keepIn K (.ref f9) = true)
    (fa10 : PySem.W.nsIn K mainGlobals "_has_form" = some (some (.ref f10)))
    (fl10 : K.lookup f10 = some ⟨oc10, od10, .func (PySem.W.fnOf "_has_form" "_has_form" (defArgs s__has_form) (defBody s__has_form) (defScope s__has_form) .none kV10 dc10 pm10 an10 cd10 ct10), sl10⟩)
    (fc10 : PySem.W.codeIn K cd10 "_has_form" = true)
    (fk10 : PySem.W.keepIn K (.ref f10) = true)
    (fa11 : PySem.W.nsIn K mainGlobals "_fits" = some (some (.ref f11)))
    (fl11 : K.lookup f11 = some ⟨oc11, od11, .func (PySem.W.fnOf "_fits" "_fits" (defArgs s__fits) (defBody s__fits) (defScope s__fits) .none kV11 dc11 pm11 an11 cd11 ct11), sl11⟩)
    (fc11 : PySem.W.codeIn K cd11 "_fits" = true)
    (fk11 : PySem.W.keepIn K (.ref f11) = true)
    (fa12 : PySem.W.findIn K (.ref z_Effect) "__init__" = some (some (.ref f12)))
    (fi12 : PySem.W.isFn K (.ref f12) = true)
    (fl12 : K.lookup f12 = some ⟨oc12, od12, .func (PySem.W.fnOf "__init__" "Effect.__init__" (defArgs s_Effect_init) (defBody s_Effect_init) (defScope s_Effect_init) .none kV12 dc12 pm12 an12 cd12 ct12), sl12⟩)
    (fc12 : PySem.W.codeIn K cd12 "Effect.__init__" = true)
    (fk12 : PySem.W.keepIn K (.ref f12) = true)
    (mk_Effect : PySem.W.makesIn K z_Effect = true)
    (kc_Effect : PySem.W.keepIn K (.ref z_Effect) = true)
    (fa13 : PySem.W.findIn K (.ref z_Effect) "ticket_now" = some (some (.ref f13)))
    (fi13 : PySem.W.isFn K (.ref f13) = true)
    (fl13 : K.lookup f13 = some ⟨oc13, od13, .func (PySem.W.fnOf "ticket_now" "Effect.ticket_now" (defArgs s_Effect_ticket_now) (defBody s_Effect_ticket_now) (defScope s_Effect_ticket_now) .none kV13 dc13 pm13 an13 cd13 ct13), sl13⟩)
    (fc13 : PySem.W.codeIn K cd13 "Effect.ticket_now" = true)
    (fk13 : PySem.W.keepIn K (.ref f13) = true)
    (fa14 : PySem.W.findIn K (.ref z_Effect) "try_rules" = some (some (.ref f14)))
    (fi14 : PySem.W.isFn K (.ref f14) = true)
    (fl14 : K.lookup f14 = some ⟨oc14, od14, .func (PySem.W.fnOf "try_rules" "Effect.try_rules" (defArgs s_Effect_try_rules) (defBody s_Effect_try_rules) (defScope s_Effect_try_rules) .none kV14 dc14 pm14 an14 cd14 ct14), sl14⟩)
    (fc14 : PySem.W.codeIn K cd14 "Effect.try_rules" = true)
    (fk14 : PySem.W.keepIn K (.ref f14) = true)
    (fa15 : PySem.W.findIn K (.ref z_Effect) "holds" = some (some (.ref f15)))
    (fi15 : PySem.W.isFn K (.ref f15) = true)
    (fl15 : K.lookup f15 = some ⟨oc15, od15, .func (PySem.W.fnOf "holds" "Effect.holds" (defArgs s_Effect_holds) (defBody s_Effect_holds) (defScope s_Effect_holds) .none kV15 dc15 pm15 an15 cd15 ct15), sl15⟩)
    (fc15 : PySem.W.codeIn K cd15 "Effect.holds" = true)
    (fk15 : PySem.W.keepIn K (.ref f15) = true)
    (fa16 : PySem.W.findIn K (.ref z_Effect) "carry_out" = some (some (.ref f16)))
    (fi16 : PySem.W.isFn K (.ref f16) = true)
    (fl16 : K.lookup f16 = some ⟨oc16, od16, .func (PySem.W.fnOf "carry_out" "Effect.carry_out" (defArgs s_Effect_carry_out) (defBody s_Effect_carry_out) (defScope s_Effect_carry_out) .none kV16 dc16 pm16 an16 cd16 ct16), sl16⟩)
    (fc16 : PySem.W.codeIn K cd16 "Effect.carry_out" = true)
    (fk16 : PySem.W.keepIn K (.ref f16) = true)
    (fa17 : PySem.W.findIn K (.ref z_Effect) "set_status" = some (some (.ref f17)))
    (fi17 : PySem.W.isFn K (.ref f17) = true)
    (fl17 : K.lookup f17 = some ⟨oc17, od17, .func (PySem.W.fnOf "set_status" "Effect.set_status" (defArgs s_Effect_set_status) (defBody s_Effect_set_status) (defScope s_Effect_set_status) .none kV17 dc17 pm17 an17 cd17 ct17), sl17⟩)
    (fc17 : PySem.W.codeIn K cd17 "Effect.set_status" = true)
    (fk17 : PySem.W.keepIn K (.ref f17) = true)
    (fa18 : PySem.W.findIn K (.ref z_Effect) "move" = some (some (.ref f18)))
    (fi18 : PySem.W.isFn K (.ref f18) = true)
    (fl18 : K.lookup f18 = some ⟨oc18, od18, .func (PySem.W.fnOf "move" "Effect.move" (defArgs s_Effect_move) (defBody s_Effect_move) (defScope s_Effect_move) .none kV18 dc18 pm18 an18 cd18 ct18), sl18⟩)
    (fc18 : PySem.W.codeIn K cd18 "Effect.move" = true)
    (fk18 : PySem.W.keepIn K (.ref f18) = true)
    (fa19 : PySem.W.findIn K (.ref z_Effect) "send_reply" = some (some (.ref f19)))
    (fi19 : PySem.W.isFn K (.ref f19) = true)
    (fl19 : K.lookup f19 = some ⟨oc19, od19, .func (PySem.W.fnOf "send_reply" "Effect.send_reply" (defArgs s_Effect_send_reply) (defBody s_Effect_send_reply) (defScope s_Effect_send_reply) .none kV19 dc19 pm19 an19 cd19 ct19), sl19⟩)
    (fc19 : PySem.W.codeIn K cd19 "Effect.send_reply" = true)
    (fk19 : PySem.W.keepIn K (.ref f19) = true)
    (fa20 : PySem.W.findIn K (.ref z_Turn) "__init__" = some (some (.ref f20)))
    (fi20 : PySem.W.isFn K (.ref f20) = true)
    (fl20 : K.lookup f20 = some ⟨oc20, od20, .func (PySem.W.fnOf "__init__" "Turn.__init__" (defArgs s_Turn_init) (defBody s_Turn_init) (defScope s_Turn_init) .none kV20 dc20 pm20 an20 cd20 ct20), sl20⟩)
    (fc20 : PySem.W.codeIn K cd20 "Turn.__init__" = true)
    (fk20 : PySem.W.keepIn K (.ref f20) = true)
    (mk_Turn : PySem.W.makesIn K z_Turn = true)
    (kc_Turn : PySem.W.keepIn K (.ref z_Turn) = true)
    (fa21 : PySem.W.findIn K (.ref z_Turn) "report" = some (some (.ref f21)))
    (fi21 : PySem.W.isFn K (.ref f21) = true)
    (fl21 : K.lookup f21 = some ⟨oc21, od21, .func (PySem.W.fnOf "report" "Turn.report" (defArgs s_Turn_report) (defBody s_Turn_report) (defScope s_Turn_report) .none kV21 dc21 pm21 an21 cd21 ct21), sl21⟩)
    (fc21 : PySem.W.codeIn K cd21 "Turn.report" = true)
    (fk21 : PySem.W.keepIn K (.ref f21) = true)
    (fa22 : PySem.W.findIn K (.ref z_Turn) "run" = some (some (.ref f22)))
    (fi22 : PySem.W.isFn K (.ref f22) = true)
    (fl22 : K.lookup f22 = some ⟨oc22, od22, .func (PySem.W.fnOf "run" "Turn.run" (defArgs s_Turn_run) (defBody s_Turn_run) (defScope s_Turn_run) .none kV22 dc22 pm22 an22 cd22 ct22), sl22⟩)
    (fc22 : PySem.W.codeIn K cd22 "Turn.run" = true)
    (fk22 : PySem.W.keepIn K (.ref f22) = true)
    (fa23 : PySem.W.findIn K (.ref z_Turn) "take" = some (some (.ref f23)))
    (fi23 : PySem.W.isFn K (.ref f23) = true)
    (fl23 : K.lookup f23 = some ⟨oc23, od23, .func (PySem.W.fnOf "take" "Turn.take" (defArgs s_Turn_take) (defBody s_Turn_take) (defScope s_Turn_take) .none kV23 dc23 pm23 an23 cd23 ct23), sl23⟩)
    (fc23 : PySem.W.codeIn K cd23 "Turn.take" = true)
    (fk23 : PySem.W.keepIn K (.ref f23) = true)
    (fa24 : PySem.W.findIn K (.ref z_Turn) "fault_kinds" = some (some (.ref f24)))
    (fi24 : PySem.W.isFn K (.ref f24) = true)
    (fl24 : K.lookup f24 = some ⟨oc24, od24, .func (PySem.W.fnOf "fault_kinds" "Turn.fault_kinds" (defArgs s_Turn_fault_kinds) (defBody s_Turn_fault_kinds) (defScope s_Turn_fault_kinds) .none kV24 dc24 pm24 an24 cd24 ct24), sl24⟩)
    (fc24 : PySem.W.codeIn K cd24 "Turn.fault_kinds" = true)
    (fk24 : PySem.W.keepIn K (.ref f24) = true)
    (fa25 : PySem.W.findIn K (.ref z_Works) "__init__" = some (some (.ref f25)))
    (fi25 : PySem.W.isFn K (.ref f25) = true)
    (fl25 : K.lookup f25 = some ⟨oc25, od25, .func (PySem.W.fnOf "__init__" "Works.__init__" (defArgs s_Works_init) (defBody s_Works_init) (defScope s_Works_init) .none kV25 dc25 pm25 an25 cd25 ct25), sl25⟩)
    (fc25 : PySem.W.codeIn K cd25 "Works.__init__" = true)
    (fk25 : PySem.W.keepIn K (.ref f25) = true)
    (mk_Works : PySem.W.makesIn K z_Works = true)
    (kc_Works : PySem.W.keepIn K (.ref z_Works) = true)
    (fa26 : PySem.W.findIn K (.ref z_Works) "effect" = some (some (.ref f26)))
    (fi26 : PySem.W.isFn K (.ref f26) = true)
    (fl26 : K.lookup f26 = some ⟨oc26, od26, .func (PySem.W.fnOf "effect" "Works.effect" (defArgs s_Works_effect) (defBody s_Works_effect) (defScope s_Works_effect) .none kV26 dc26 pm26 an26 cd26 ct26), sl26⟩)
    (fc26 : PySem.W.codeIn K cd26 "Works.effect" = true)
    (fk26 : PySem.W.keepIn K (.ref f26) = true)
    (fa27 : PySem.W.findIn K (.ref z_Works) "begun" = some (some (.ref f27)))
    (fi27 : PySem.W.isFn K (.ref f27) = true)
    (fl27 : K.lookup f27 = some ⟨oc27, od27, .func (PySem.W.fnOf "begun" "Works.begun" (defArgs s_Works_begun) (defBody s_Works_begun) (defScope s_Works_begun) .none kV27 dc27 pm27 an27 cd27 ct27), sl27⟩)
    (fc27 : PySem.W.codeIn K cd27 "Works.begun" = true)
    (fk27 : PySem.W.keepIn K (.ref f27) = true)
    (fa28 : PySem.W.findIn K (.ref z_Works) "run" = some (some (.ref f28)))
    (fi28 : PySem.W.isFn K (.ref f28) = true)
    (fl28 : K.lookup f28 = some ⟨oc28, od28, .func (PySem.W.fnOf "run" "Works.run" (defArgs s_Works_run) (defBody s_Works_run) (defScope s_Works_run) .none kV28 dc28 pm28 an28 cd28 ct28), sl28⟩)
    (fc28 : PySem.W.codeIn K cd28 "Works.run" = true)
    (fk28 : PySem.W.keepIn K (.ref f28) = true)
    (fa29 : PySem.W.findIn K (.ref z_Works) "turn" = some (some (.ref f29)))
    (fi29 : PySem.W.isFn K (.ref f29) = true)
    (fl29 : K.lookup f29 = some ⟨oc29, od29, .func (PySem.W.fnOf "turn" "Works.turn" (defArgs s_Works_turn) (defBody s_Works_turn) (defScope s_Works_turn) .none kV29 dc29 pm29 an29 cd29 ct29), sl29⟩)
    (fc29 : PySem.W.codeIn K cd29 "Works.turn" = true)
    (fk29 : PySem.W.keepIn K (.ref f29) = true)
    (fa30 : PySem.W.nsIn K mainGlobals "play" = some (some (.ref f30)))
    (fl30 : K.lookup f30 = some ⟨oc30, od30, .func (PySem.W.fnOf "play" "play" (defArgs s_play) (defBody s_play) (defScope s_play) .none kV30 dc30 pm30 an30 cd30 ct30), sl30⟩)
    (fc30 : PySem.W.codeIn K cd30 "play" = true)
    (fk30 : PySem.W.keepIn K (.ref f30) = true)
    (fa31 : PySem.W.nsIn K mainGlobals "faults" = some (some (.ref f31)))
    (fl31 : K.lookup f31 = some ⟨oc31, od31, .func (PySem.W.fnOf "faults" "faults" (defArgs s_faults) (defBody s_faults) (defScope s_faults) .none kV31 dc31 pm31 an31 cd31 ct31), sl31⟩)
    (fc31 : PySem.W.codeIn K cd31 "faults" = true)
    (fk31 : PySem.W.keepIn K (.ref f31) = true)
    (fa32 : PySem.W.nsIn K mainGlobals "_turns" = some (some (.ref f32)))
    (fl32 : K.lookup f32 = some ⟨oc32, od32, .func (PySem.W.fnOf "_turns" "_turns" (defArgs s__turns) (defBody s__turns) (defScope s__turns) .none kV32 dc32 pm32 an32 cd32 ct32), sl32⟩)
    (fc32 : PySem.W.codeIn K cd32 "_turns" = true)
    (fk32 : PySem.W.keepIn K (.ref f32) = true)
    (fa33 : PySem.W.nsIn K mainGlobals "_check_deeds" = some (some (.ref f33)))
    (fl33 : K.lookup f33 = some ⟨oc33, od33, .func (PySem.W.fnOf "_check_deeds" "_check_deeds" (defArgs s__check_deeds) (defBody s__check_deeds) (defScope s__check_deeds) .none kV33 dc33 pm33 an33 cd33 ct33), sl33⟩)
    (fc33 : PySem.W.codeIn K cd33 "_check_deeds" = true)
    (fk33 : PySem.W.keepIn K (.ref f33) = true)
    (fa34 : PySem.W.findIn K (.ref z_Book) "__init__" = some (some (.ref f34)))
    (fi34 : PySem.W.isFn K (.ref f34) = true)
    (fl34 : K.lookup f34 = some ⟨oc34, od34, .func (PySem.W.fnOf "__init__" "Book.__init__" (defArgs s_Book_init) (defBody s_Book_init) (defScope s_Book_init) .none kV34 dc34 pm34 an34 cd34 ct34), sl34⟩)
    (fc34 : PySem.W.codeIn K cd34 "Book.__init__" = true)
    (fk34 : PySem.W.keepIn K (.ref f34) = true)
    (mk_Book : PySem.W.makesIn K z_Book = true)
    (kc_Book : PySem.W.keepIn K (.ref z_Book) = true)
    (fa35 : PySem.W.findIn K (.ref z_Book) "desks" = some (some (.ref f35)))
    (fi35 : PySem.W.isFn K (.ref f35) = true)
    (fl35 : K.lookup f35 = some ⟨oc35, od35, .func (PySem.W.fnOf "desks" "Book.desks" (defArgs s_Book_desks) (defBody s_Book_desks) (defScope s_Book_desks) .none kV35 dc35 pm35 an35 cd35 ct35), sl35⟩)
    (fc35 : PySem.W.codeIn K cd35 "Book.desks" = true)
    (fk35 : PySem.W.keepIn K (.ref f35) = true)
    (fa36 : PySem.W.findIn K (.ref z_Book) "rules" = some (some (.ref f36)))
    (fi36 : PySem.W.isFn K (.ref f36) = true)
    (fl36 : K.lookup f36 = some ⟨oc36, od36, .func (PySem.W.fnOf "rules" "Book.rules" (defArgs s_Book_rules) (defBody s_Book_rules) (defScope s_Book_rules) .none kV36 dc36 pm36 an36 cd36 ct36), sl36⟩)
    (fc36 : PySem.W.codeIn K cd36 "Book.rules" = true)
    (fk36 : PySem.W.keepIn K (.ref f36) = true)
    (fa37 : PySem.W.findIn K (.ref z_Book) "__len__" = some (some (.ref f37)))
    (fi37 : PySem.W.isFn K (.ref f37) = true)
    (fl37 : K.lookup f37 = some ⟨oc37, od37, .func (PySem.W.fnOf "__len__" "Book.__len__" (defArgs s_Book_len) (defBody s_Book_len) (defScope s_Book_len) .none kV37 dc37 pm37 an37 cd37 ct37), sl37⟩)
    (fc37 : PySem.W.codeIn K cd37 "Book.__len__" = true)
    (fk37 : PySem.W.keepIn K (.ref f37) = true)
    (fa38 : PySem.W.findIn K (.ref z_Book) "__getitem__" = some (some (.ref f38)))
    (fi38 : PySem.W.isFn K (.ref f38) = true)
    (fl38 : K.lookup f38 = some ⟨oc38, od38, .func (PySem.W.fnOf "__getitem__" "Book.__getitem__" (defArgs s_Book_getitem) (defBody s_Book_getitem) (defScope s_Book_getitem) .none kV38 dc38 pm38 an38 cd38 ct38), sl38⟩)
    (fc38 : PySem.W.codeIn K cd38 "Book.__getitem__" = true)
    (fk38 : PySem.W.keepIn K (.ref f38) = true)
    (fa39 : PySem.W.findIn K (.ref z_Book) "__iter__" = some (some (.ref f39)))
    (fi39 : PySem.W.isFn K (.ref f39) = true)
    (fl39 : K.lookup f39 = some ⟨oc39, od39, .func (PySem.W.fnOf "__iter__" "Book.__iter__" (defArgs s_Book_iter) (defBody s_Book_iter) (defScope s_Book_iter) .none kV39 dc39 pm39 an39 cd39 ct39), sl39⟩)
    (fc39 : PySem.W.codeIn K cd39 "Book.__iter__" = true)
    (fk39 : PySem.W.keepIn K (.ref f39) = true)
    (fa40 : PySem.W.findIn K (.ref z_Book) "__eq__" = some (some (.ref f40)))
    (fi40 : PySem.W.isFn K (.ref f40) = true)
    (fl40 : K.lookup f40 = some ⟨oc40, od40, .func (PySem.W.fnOf "__eq__" "Book.__eq__" (defArgs s_Book_eq) (defBody s_Book_eq) (defScope s_Book_eq) .none kV40 dc40 pm40 an40 cd40 ct40), sl40⟩)
    (fc40 : PySem.W.codeIn K cd40 "Book.__eq__" = true)
    (fk40 : PySem.W.keepIn K (.ref f40) = true)
    (fa41 : PySem.W.findIn K (.ref z_Book) "__add__" = some (some (.ref f41)))
    (fi41 : PySem.W.isFn K (.ref f41) = true)
    (fl41 : K.lookup f41 = some ⟨oc41, od41, .func (PySem.W.fnOf "__add__" "Book.__add__" (defArgs s_Book_add) (defBody s_Book_add) (defScope s_Book_add) .none kV41 dc41 pm41 an41 cd41 ct41), sl41⟩)
    (fc41 : PySem.W.codeIn K cd41 "Book.__add__" = true)
    (fk41 : PySem.W.keepIn K (.ref f41) = true)
    (fa42 : PySem.W.findIn K (.ref z_Book) "without" = some (some (.ref f42)))
    (fi42 : PySem.W.isFn K (.ref f42) = true)
    (fl42 : K.lookup f42 = some ⟨oc42, od42, .func (PySem.W.fnOf "without" "Book.without" (defArgs s_Book_without) (defBody s_Book_without) (defScope s_Book_without) .none kV42 dc42 pm42 an42 cd42 ct42), sl42⟩)
    (fc42 : PySem.W.codeIn K cd42 "Book.without" = true)
    (fk42 : PySem.W.keepIn K (.ref f42) = true)
    (fa43 : PySem.W.findIn K (.ref z_Book) "exchanged" = some (some (.ref f43)))
    (fi43 : PySem.W.isFn K (.ref f43) = true)
    (fl43 : K.lookup f43 = some ⟨oc43, od43, .func (PySem.W.fnOf "exchanged" "Book.exchanged" (defArgs s_Book_exchanged) (defBody s_Book_exchanged) (defScope s_Book_exchanged) .none kV43 dc43 pm43 an43 cd43 ct43), sl43⟩)
    (fc43 : PySem.W.codeIn K cd43 "Book.exchanged" = true)
    (fk43 : PySem.W.keepIn K (.ref f43) = true)
    (fa44 : PySem.W.findIn K (.ref z_Book) "_has" = some (some (.ref f44)))
    (fi44 : PySem.W.isFn K (.ref f44) = true)
    (fl44 : K.lookup f44 = some ⟨oc44, od44, .func (PySem.W.fnOf "_has" "Book._has" (defArgs s_Book__has) (defBody s_Book__has) (defScope s_Book__has) .none kV44 dc44 pm44 an44 cd44 ct44), sl44⟩)
    (fc44 : PySem.W.codeIn K cd44 "Book._has" = true)
    (fk44 : PySem.W.keepIn K (.ref f44) = true)
    (fa45 : PySem.W.nsIn K mainGlobals "_law_pot" = some (some (.ref f45)))
    (fl45 : K.lookup f45 = some ⟨oc45, od45, .func (PySem.W.fnOf "_law_pot" "_law_pot" (defArgs s__law_pot) (defBody s__law_pot) (defScope s__law_pot) .none kV45 dc45 pm45 an45 cd45 ct45), sl45⟩)
    (fc45 : PySem.W.codeIn K cd45 "_law_pot" = true)
    (fk45 : PySem.W.keepIn K (.ref f45) = true)
    (fa46 : PySem.W.nsIn K mainGlobals "_law_dip" = some (some (.ref f46)))
    (fl46 : K.lookup f46 = some ⟨oc46, od46, .func (PySem.W.fnOf "_law_dip" "_law_dip" (defArgs s__law_dip) (defBody s__law_dip) (defScope s__law_dip) .none kV46 dc46 pm46 an46 cd46 ct46), sl46⟩)
    (fc46 : PySem.W.codeIn K cd46 "_law_dip" = true)
    (fk46 : PySem.W.keepIn K (.ref f46) = true)
    (fa47 : PySem.W.nsIn K mainGlobals "_law_name" = some (some (.ref f47)))
    (fl47 : K.lookup f47 = some ⟨oc47, od47, .func (PySem.W.fnOf "_law_name" "_law_name" (defArgs s__law_name) (defBody s__law_name) (defScope s__law_name) .none kV47 dc47 pm47 an47 cd47 ct47), sl47⟩)
    (fc47 : PySem.W.codeIn K cd47 "_law_name" = true)
    (fk47 : PySem.W.keepIn K (.ref f47) = true)
    (fa48 : PySem.W.nsIn K mainGlobals "_law_desks" = some (some (.ref f48)))
    (fl48 : K.lookup f48 = some ⟨oc48, od48, .func (PySem.W.fnOf "_law_desks" "_law_desks" (defArgs s__law_desks) (defBody s__law_desks) (defScope s__law_desks) .none kV48 dc48 pm48 an48 cd48 ct48), sl48⟩)
    (fc48 : PySem.W.codeIn K cd48 "_law_desks" = true)
    (fk48 : PySem.W.keepIn K (.ref f48) = true)
    (fa49 : PySem.W.nsIn K mainGlobals "_law_status" = some (some (.ref f49)))
    (fl49 : K.lookup f49 = some ⟨oc49, od49, .func (PySem.W.fnOf "_law_status" "_law_status" (defArgs s__law_status) (defBody s__law_status) (defScope s__law_status) .none kV49 dc49 pm49 an49 cd49 ct49), sl49⟩)
    (fc49 : PySem.W.codeIn K cd49 "_law_status" = true)
    (fk49 : PySem.W.keepIn K (.ref f49) = true)
    (fa50 : PySem.W.nsIn K mainGlobals "_law_test" = some (some (.ref f50)))
    (fl50 : K.lookup f50 = some ⟨oc50, od50, .func (PySem.W.fnOf "_law_test" "_law_test" (defArgs s__law_test) (defBody s__law_test) (defScope s__law_test) .none kV50 dc50 pm50 an50 cd50 ct50), sl50⟩)
    (fc50 : PySem.W.codeIn K cd50 "_law_test" = true)
    (fk50 : PySem.W.keepIn K (.ref f50) = true)
    (fa51 : PySem.W.nsIn K mainGlobals "_law_action" = some (some (.ref f51)))
    (fl51 : K.lookup f51 = some ⟨oc51, od51, .func (PySem.W.fnOf "_law_action" "_law_action" (defArgs s__law_action) (defBody s__law_action) (defScope s__law_action) .none kV51 dc51 pm51 an51 cd51 ct51), sl51⟩)
    (fc51 : PySem.W.codeIn K cd51 "_law_action" = true)
    (fk51 : PySem.W.keepIn K (.ref f51) = true)
    (fa52 : PySem.W.nsIn K mainGlobals "_law_rule" = some (some (.ref f52)))
    (fl52 : K.lookup f52 = some ⟨oc52, od52, .func (PySem.W.fnOf "_law_rule" "_law_rule" (defArgs s__law_rule) (defBody s__law_rule) (defScope s__law_rule) .none kV52 dc52 pm52 an52 cd52 ct52), sl52⟩)
    (fc52 : PySem.W.codeIn K cd52 "_law_rule" = true)
    (fk52 : PySem.W.keepIn K (.ref f52) = true)
    (fa53 : PySem.W.nsIn K mainGlobals "_law_deed" = some (some (.ref f53)))
    (fl53 : K.lookup f53 = some ⟨oc53, od53, .func (PySem.W.fnOf "_law_deed" "_law_deed" (defArgs s__law_deed) (defBody s__law_deed) (defScope s__law_deed) .none kV53 dc53 pm53 an53 cd53 ct53), sl53⟩)
    (fc53 : PySem.W.codeIn K cd53 "_law_deed" = true)
    (fk53 : PySem.W.keepIn K (.ref f53) = true)
    (fa54 : PySem.W.nsIn K mainGlobals "_law_bad" = some (some (.ref f54)))
    (fl54 : K.lookup f54 = some ⟨oc54, od54, .func (PySem.W.fnOf "_law_bad" "_law_bad" (defArgs s__law_bad) (defBody s__law_bad) (defScope s__law_bad) .none kV54 dc54 pm54 an54 cd54 ct54), sl54⟩)
    (fc54 : PySem.W.codeIn K cd54 "_law_bad" = true)
    (fk54 : PySem.W.keepIn K (.ref f54) = true)
    (fa55 : PySem.W.nsIn K mainGlobals "_law_refused" = some (some (.ref f55)))
    (fl55 : K.lookup f55 = some ⟨oc55, od55, .func (PySem.W.fnOf "_law_refused" "_law_refused" (defArgs s__law_refused) (defBody s__law_refused) (defScope s__law_refused) .none kV55 dc55 pm55 an55 cd55 ct55), sl55⟩)
    (fc55 : PySem.W.codeIn K cd55 "_law_refused" = true)
    (fk55 : PySem.W.keepIn K (.ref f55) = true)
    (fa56 : PySem.W.nsIn K mainGlobals "_law_both" = some (some (.ref f56)))
    (fl56 : K.lookup f56 = some ⟨oc56, od56, .func (PySem.W.fnOf "_law_both" "_law_both" (defArgs s__law_both) (defBody s__law_both) (defScope s__law_both) .none kV56 dc56 pm56 an56 cd56 ct56), sl56⟩)
    (fc56 : PySem.W.codeIn K cd56 "_law_both" = true)
    (fk56 : PySem.W.keepIn K (.ref f56) = true)
    (fa57 : PySem.W.nsIn K mainGlobals "_law_any_base" = some (some (.ref f57)))
    (fl57 : K.lookup f57 = some ⟨oc57, od57, .func (PySem.W.fnOf "_law_any_base" "_law_any_base" (defArgs s__law_any_base) (defBody s__law_any_base) (defScope s__law_any_base) .none kV57 dc57 pm57 an57 cd57 ct57), sl57⟩)
    (fc57 : PySem.W.codeIn K cd57 "_law_any_base" = true)
    (fk57 : PySem.W.keepIn K (.ref f57) = true)
    (fa58 : PySem.W.nsIn K mainGlobals "_law_right" = some (some (.ref f58)))
    (fl58 : K.lookup f58 = some ⟨oc58, od58, .func (PySem.W.fnOf "_law_right" "_law_right" (defArgs s__law_right) (defBody s__law_right) (defScope s__law_right) .none kV58 dc58 pm58 an58 cd58 ct58), sl58⟩)
    (fc58 : PySem.W.codeIn K cd58 "_law_right" = true)
    (fk58 : PySem.W.keepIn K (.ref f58) = true)
    (fa59 : PySem.W.nsIn K mainGlobals "law" = some (some (.ref f59)))
    (fl59 : K.lookup f59 = some ⟨oc59, od59, .func (PySem.W.fnOf "law" "law" (defArgs s_law) (defBody s_law) (defScope s_law) .none kV59 dc59 pm59 an59 cd59 ct59), sl59⟩)
    (fc59 : PySem.W.codeIn K cd59 "law" = true)
    (fk59 : PySem.W.keepIn K (.ref f59) = true) : TX P K mg { DeskError := z_DeskError, NoDesks := z_NoDesks, NoRule := z_NoRule, NoDeed := z_NoDeed, NoTicket := z_NoTicket, Effect := z_Effect, Turn := z_Turn, Works := z_Works, Book := z_Book, STATUSES := z_STATUSES, EVENTS := z_EVENTS, TEST_FORMS := z_TEST_FORMS, ACTION_FORMS := z_ACTION_FORMS, DEED_FORMS := z_DEED_FORMS, NoRule_init := z_NoRule_init, NoDeed_init := z_NoDeed_init, NoTicket_init := z_NoTicket_init } :=
  { b_ValueError := PySem.W.mg_none_of X G b_ValueError,
    b_abs := PySem.W.mg_none_of X G b_abs,
    b_all := PySem.W.mg_none_of X G b_all,
    b_bool := PySem.W.mg_none_of X G b_bool,
    b_enumerate := PySem.W.mg_none_of X G b_enumerate,
    b_int := PySem.W.mg_none_of X G b_int,
    b_isinstance := PySem.W.mg_none_of X G b_isinstance,
    b_len := PySem.W.mg_none_of X G b_len,
    b_list := PySem.W.mg_none_of X G b_list,
    b_max := PySem.W.mg_none_of X G b_max,
    b_min := PySem.W.mg_none_of X G b_min,
    b_range := PySem.W.mg_none_of X G b_range,
    b_set := PySem.W.mg_none_of X G b_set,
    b_str := PySem.W.mg_none_of X G b_str,
    b_super := PySem.W.mg_none_of X G b_super,
    b_tuple := PySem.W.mg_none_of X G b_tuple,
    b_zip := PySem.W.mg_none_of X G b_zip,
    g_LETTERS := constS_mk X G g_LETTERS,
    g_LONGEST_NAME := const_mk X G g_LONGEST_NAME,
    g_MOST_DESKS := const_mk X G g_MOST_DESKS,
    g_MOST_TESTS := const_mk X G g_MOST_TESTS,
    g_MOST_ACTIONS := const_mk X G g_MOST_ACTIONS,
    g_MOST_DAYS := const_mk X G g_MOST_DAYS,
    g_STATUSES := PySem.W.mg_of X G g_STATUSES,
    v_STATUSES := v_STATUSES,
    g_EVENTS := PySem.W.mg_of X G g_EVENTS,
    v_EVENTS := v_EVENTS,
    g_TEST_FORMS := PySem.W.mg_of X G g_TEST_FORMS,
    v_TEST_FORMS := v_TEST_FORMS,
    g_ACTION_FORMS := PySem.W.mg_of X G g_ACTION_FORMS,
    v_ACTION_FORMS := v_ACTION_FORMS,
    g_DEED_FORMS := PySem.W.mg_of X G g_DEED_FORMS,
    v_DEED_FORMS := v_DEED_FORMS,
    g_MOST_EVENTS := const_mk X G g_MOST_EVENTS,
    g_MOST_RULES := const_mk X G g_MOST_RULES,
    c_DeskError := PySem.W.mg_of X G c_DeskError,
    c_NoDesks := PySem.W.mg_of X G c_NoDesks,
    c_NoRule := PySem.W.mg_of X G c_NoRule,
    c_NoDeed := PySem.W.mg_of X G c_NoDeed,
    c_NoTicket := PySem.W.mg_of X G c_NoTicket,
    c_Effect := PySem.W.mg_of X G c_Effect,
    c_Turn := PySem.W.mg_of X G c_Turn,
    c_Works := PySem.W.mg_of X G c_Works,
    c_Book := PySem.W.mg_of X G c_Book,
    tg_class := tg_class,
    tt_class := tt_class,
    cl_Effect := ⟨pg_Effect, hd_Effect, po_Effect, sa_Effect⟩,
    ty_Effect := ty_Effect,
    mo_Effect := mo_Effect,
    sf_Effect := sf_Effect,
    nf_Effect := nf_Effect,
    na_Effect_events := na_Effect_events,
    na_Effect_acted := na_Effect_acted,
    na_Effect_sent := na_Effect_sent,
    na_Effect_closed_by_rule := na_Effect_closed_by_rule,
    na_Effect_sent_twice := na_Effect_sent_twice,
    na_Effect_status := na_Effect_status,
    na_Effect_desk := na_Effect_desk,
    na_Effect_answered := na_Effect_answered,
    na_Effect_days := na_Effect_days,
    na_Effect_marked := na_Effect_marked,
    cl_Turn := ⟨pg_Turn, hd_Turn, po_Turn, sa_Turn⟩,
    ty_Turn := ty_Turn,
    mo_Turn := mo_Turn,
    sf_Turn := sf_Turn,
    nf_Turn := nf_Turn,
    na_Turn_event := na_Turn_event,
    na_Turn_behind := na_Turn_behind,
    na_Turn_acted := na_Turn_acted,
    na_Turn_sent := na_Turn_sent,
    na_Turn_endless := na_Turn_endless,
    na_Turn_closed_by_rule := na_Turn_closed_by_rule,
    na_Turn_sent_twice := na_Turn_sent_twice,
    na_Turn_kinds := na_Turn_kinds,
    cl_Works := ⟨pg_Works, hd_Works, po_Works, sa_Works⟩,
    ty_Works := ty_Works,
    mo_Works := mo_Works,
    sf_Works := sf_Works,
    nf_Works := nf_Works,
    na_Works_rulebook := na_Works_rulebook,
    na_Works__rules_at := na_Works__rules_at,
    na_Works__effects := na_Works__effects,
    cl_Book := ⟨pg_Book, hd_Book, po_Book, sa_Book⟩,
    ty_Book := ty_Book,
    mo_Book := mo_Book,
    sf_Book := sf_Book,
    nf_Book := nf_Book,
    na_Book__desks := na_Book__desks,
    na_Book__rules := na_Book__rules,
    q_NoDeed := ⟨xhdC_NoDeed, xga_NoDeed, xgg_NoDeed, xexC_NoDeed, qa_NoDeed, tg_class, tt_class, qb_NoDeed⟩,
    ki_NoDeed_NoTicket := kj_NoDeed_NoTicket,
    ki_NoDeed_ValueError := kj_NoDeed_ValueError,
    ki_NoDeed_DeskError := kj_NoDeed_DeskError,
    ki_NoDeed_NoDeed := kj_NoDeed_NoDeed,
    q_NoTicket := ⟨xhdC_NoTicket, xga_NoTicket, xgg_NoTicket, xexC_NoTicket, qa_NoTicket, tg_class, tt_class, qb_NoTicket⟩,
    ki_NoTicket_NoTicket := kj_NoTicket_NoTicket,
    ki_NoTicket_ValueError := kj_NoTicket_ValueError,
    ki_NoTicket_DeskError := kj_NoTicket_DeskError,
    ki_NoTicket_NoDeed := kj_NoTicket_NoDeed,
    n_NoTicket_NoDeed := xn_NoTicket_NoDeed,
    n_NoDeed_NoTicket := xn_NoDeed_NoTicket,
    n_NoDeed_DeskError := xn_NoDeed_DeskError,
    n_NoTicket_DeskError := xn_NoTicket_DeskError,
    m_DeskError := xm_DeskError,
    x_DeskError := ⟨xq_DeskError, xk_DeskError, xe_DeskError, xt_DeskError⟩,
    m_NoDesks := xm_NoDesks,
    x_NoDesks := ⟨xq_NoDesks, xk_NoDesks, xe_NoDesks, xt_NoDesks⟩,
    m_NoRule := xm_NoRule,
    x_NoRule := { cls := ⟨nm_NoRule, q_NoRule, N_NoRule, bs_NoRule, bm_NoRule, sn_NoRule, sub_NoRule, ab_NoRule, col_NoRule, dd_NoRule, k0_NoRule, k1_NoRule, k2_NoRule, k3_NoRule, k5_NoRule, xc_NoRule, xr_NoRule⟩, inI := xinI_NoRule, sa := xsa_NoRule, ga := xga_NoRule, gg := xgg_NoRule, noN := xnoN_NoRule, iC := xiC_NoRule, tC := xtC_NoRule, kC := xkC_NoRule, exC := xexC_NoRule, exV := xexV_NoRule, tyC := xtyC_NoRule, hdC := xhdC_NoRule, mro := xmro_NoRule, above := xabove_NoRule, sup := PySem.W.mg_none_of X G b_super, opq := opq, htop := htop, fn := ⟨oc_NoRule, od_NoRule, doc_NoRule, pm_NoRule, an_NoRule, cda_NoRule, cc_NoRule, ct_NoRule, osl_NoRule, "NoRule.__init__", _, _, _, _, _, _, _, _, _, _, _, _, _, ccl_NoRule, cl_NoRule, cdd_NoRule, cld_NoRule, vs_NoRule, ccs_NoRule, csl_NoRule, file_NoRule, tf_NoRule, xf_NoRule, xd_NoRule, xa_NoRule, xv_NoRule, xw_NoRule, xx_NoRule, fun env => ⟨_, rfl⟩⟩ },
    m_NoDeed := xm_NoDeed,
    x_NoDeed := { cls := ⟨nm_NoDeed, q_NoDeed, N_NoDeed, bs_NoDeed, bm_NoDeed, sn_NoDeed, sub_NoDeed, ab_NoDeed, col_NoDeed, dd_NoDeed, k0_NoDeed, k1_NoDeed, k2_NoDeed, k3_NoDeed, k5_NoDeed, xc_NoDeed, xr_NoDeed⟩, inI := xinI_NoDeed, sa := xsa_NoDeed, ga := xga_NoDeed, gg := xgg_NoDeed, noN := xnoN_NoDeed, iC := xiC_NoDeed, tC := xtC_NoDeed, kC := xkC_NoDeed, exC := xexC_NoDeed, exV := xexV_NoDeed, tyC := xtyC_NoDeed, hdC := xhdC_NoDeed, mro := xmro_NoDeed, above := xabove_NoDeed, sup := PySem.W.mg_none_of X G b_super, opq := opq, htop := htop, fn := ⟨oc_NoDeed, od_NoDeed, doc_NoDeed, pm_NoDeed, an_NoDeed, cda_NoDeed, cc_NoDeed, ct_NoDeed, osl_NoDeed, "NoDeed.__init__", _, _, _, _, _, _, _, _, _, _, _, _, _, ccl_NoDeed, cl_NoDeed, cdd_NoDeed, cld_NoDeed, vs_NoDeed, ccs_NoDeed, csl_NoDeed, file_NoDeed, tf_NoDeed, xf_NoDeed, xd_NoDeed, xa_NoDeed, xv_NoDeed, xw_NoDeed, xx_NoDeed, fun env => ⟨_, rfl⟩⟩ },
    m_NoTicket := xm_NoTicket,
    x_NoTicket := { cls := ⟨nm_NoTicket, q_NoTicket, N_NoTicket, bs_NoTicket, bm_NoTicket, sn_NoTicket, sub_NoTicket, ab_NoTicket, col_NoTicket, dd_NoTicket, k0_NoTicket, k1_NoTicket, k2_NoTicket, k3_NoTicket, k5_NoTicket, xc_NoTicket, xr_NoTicket⟩, inI := xinI_NoTicket, sa := xsa_NoTicket, ga := xga_NoTicket, gg := xgg_NoTicket, noN := xnoN_NoTicket, iC := xiC_NoTicket, tC := xtC_NoTicket, kC := xkC_NoTicket, exC := xexC_NoTicket, exV := xexV_NoTicket, tyC := xtyC_NoTicket, hdC := xhdC_NoTicket, mro := xmro_NoTicket, above := xabove_NoTicket, sup := PySem.W.mg_none_of X G b_super, opq := opq, htop := htop, fn := ⟨oc_NoTicket, od_NoTicket, doc_NoTicket, pm_NoTicket, an_NoTicket, cda_NoTicket, cc_NoTicket, ct_NoTicket, osl_NoTicket, "NoTicket.__init__", _, _, _, _, _, _, _, _, _, _, _, _, _, ccl_NoTicket, cl_NoTicket, cdd_NoTicket, cld_NoTicket, vs_NoTicket, ccs_NoTicket, csl_NoTicket, file_NoTicket, tf_NoTicket, xf_NoTicket, xd_NoTicket, xa_NoTicket, xv_NoTicket, xw_NoTicket, xx_NoTicket, fun env => ⟨_, rfl⟩⟩ },
    f__wall := fnAt_mk X G fa1 fl1 fc1 fk1 (fun _ _ _ _ _ _ us hl => match us, hl with | [_], _ => rfl),
    f_is_whole := fnAt_mk X G fa2 fl2 fc2 fk2 (fun _ _ _ _ _ _ us hl => match us, hl with | [_], _ => rfl),
    f_is_name := fnAt_mk X G fa3 fl3 fc3 fk3 (fun _ _ _ _ _ _ us hl => match us, hl with | [_], _ => rfl),
    f_are_desks := fnAt_mk X G fa4 fl4 fc4 fk4 (fun _ _ _ _ _ _ us hl => match us, hl with | [_], _ => rfl),
    f_is_rule := fnAt_mk X G fa5 fl5 fc5 fk5 (fun _ _ _ _ _ _ us hl => match us, hl with | [_, _], _ => rfl),
    f_is_deed := fnAt_mk X G fa6 fl6 fc6 fk6 (fun _ _ _ _ _ _ us hl => match us, hl with | [_, _], _ => rfl),
    f_wrong_deed := fnAt_mk X G fa7 fl7 fc7 fk7 (fun _ _ _ _ _ _ us hl => match us, hl with | [_, _], _ => rfl),
    f_is_index := fnAt_mk X G fa8 fl8 fc8 fk8 (fun _ _ _ _ _ _ us hl => match us, hl with | [_, _], _ => rfl),
    f_is_word := fnAt_mk X G fa9 fl9 fc9 fk9 (fun _ _ _ _ _ _ us hl => match us, hl with | [_, _], _ => rfl),
    f__has_form := fnAt_mk X G fa10 fl10 fc10 fk10 (fun _ _ _ _ _ _ us hl => match us, hl with | [_, _, _], _ => rfl),
    f__fits := fnAt_mk X G fa11 fl11 fc11 fk11 (fun _ _ _ _ _ _ us hl => match us, hl with | [_, _, _], _ => rfl),
    in_Effect := initAt_mk X G ⟨pg_Effect, hd_Effect, po_Effect, sa_Effect⟩ c_Effect mk_Effect kc_Effect fa12 fi12 fl12 fc12 fk12 (fun _ _ _ _ _ _ us hl => match us, hl with | [_, _], _ => rfl),
    mt_Effect_ticket_now := methAt_mk fa13 fi13 fl13 fc13 fk13 (fun _ _ _ _ _ _ us hl => match us, hl with | [_], _ => rfl),
    mt_Effect_try_rules := methAt_mk fa14 fi14 fl14 fc14 fk14 (fun _ _ _ _ _ _ us hl => match us, hl with | [_, _], _ => rfl),
    mt_Effect_holds := methAt_mk fa15 fi15 fl15 fc15 fk15 (fun _ _ _ _ _ _ us hl => match us, hl with | [_, _], _ => rfl),
    mt_Effect_carry_out := methAt_mk fa16 fi16 fl16 fc16 fk16 (fun _ _ _ _ _ _ us hl => match us, hl with | [_, _], _ => rfl),
    mt_Effect_set_status := methAt_mk fa17 fi17 fl17 fc17 fk17 (fun _ _ _ _ _ _ us hl => match us, hl with | [_, _], _ => rfl),
    mt_Effect_move := methAt_mk fa18 fi18 fl18 fc18 fk18 (fun _ _ _ _ _ _ us hl => match us, hl with | [_, _], _ => rfl),
    mt_Effect_send_reply := methAt_mk fa19 fi19 fl19 fc19 fk19 (fun _ _ _ _ _ _ us hl => match us, hl with | [_], _ => rfl),
    in_Turn := initAt_mk X G ⟨pg_Turn, hd_Turn, po_Turn, sa_Turn⟩ c_Turn mk_Turn kc_Turn fa20 fi20 fl20 fc20 fk20 (fun _ _ _ _ _ _ us hl => match us, hl with | [_, _, _], _ => rfl),
    mt_Turn_report := methAt_mk fa21 fi21 fl21 fc21 fk21 (fun _ _ _ _ _ _ us hl => match us, hl with | [_], _ => rfl),
    mt_Turn_run := methAt_mk fa22 fi22 fl22 fc22 fk22 (fun _ _ _ _ _ _ us hl => match us, hl with | [_, _], _ => rfl),
    mt_Turn_take := methAt_mk fa23 fi23 fl23 fc23 fk23 (fun _ _ _ _ _ _ us hl => match us, hl with | [_, _], _ => rfl),
    mt_Turn_fault_kinds := methAt_mk fa24 fi24 fl24 fc24 fk24 (fun _ _ _ _ _ _ us hl => match us, hl with | [_], _ => rfl),
    in_Works := initAt_mk X G ⟨pg_Works, hd_Works, po_Works, sa_Works⟩ c_Works mk_Works kc_Works fa25 fi25 fl25 fc25 fk25 (fun _ _ _ _ _ _ us hl => match us, hl with | [_, _], _ => rfl),
    mt_Works_effect := methAt_mk fa26 fi26 fl26 fc26 fk26 (fun _ _ _ _ _ _ us hl => match us, hl with | [_, _, _], _ => rfl),
    mt_Works_begun := methAt_mk fa27 fi27 fl27 fc27 fk27 (fun _ _ _ _ _ _ us hl => match us, hl with | [_, _, _], _ => rfl),
    mt_Works_run := methAt_mk fa28 fi28 fl28 fc28 fk28 (fun _ _ _ _ _ _ us hl => match us, hl with | [_, _, _], _ => rfl),
    mt_Works_turn := methAt_mk fa29 fi29 fl29 fc29 fk29 (fun _ _ _ _ _ _ us hl => match us, hl with | [_, _, _], _ => rfl),
    f_play := fnAt_mk X G fa30 fl30 fc30 fk30 (fun _ _ _ _ _ _ us hl => match us, hl with | [_, _], _ => rfl),
    f_faults := fnAt_mk X G fa31 fl31 fc31 fk31 (fun _ _ _ _ _ _ us hl => match us, hl with | [_, _], _ => rfl),
    f__turns := fnAt_mk X G fa32 fl32 fc32 fk32 (fun _ _ _ _ _ _ us hl => match us, hl with | [_, _], _ => rfl),
    f__check_deeds := fnAt_mk X G fa33 fl33 fc33 fk33 (fun _ _ _ _ _ _ us hl => match us, hl with | [_, _], _ => rfl),
    in_Book := initAt_mk X G ⟨pg_Book, hd_Book, po_Book, sa_Book⟩ c_Book mk_Book kc_Book fa34 fi34 fl34 fc34 fk34 (fun _ _ _ _ _ _ us hl => match us, hl with | [_, _, _], _ => rfl),
    mt_Book_desks := methAt_mk fa35 fi35 fl35 fc35 fk35 (fun _ _ _ _ _ _ us hl => match us, hl with | [_], _ => rfl),
    mt_Book_rules := methAt_mk fa36 fi36 fl36 fc36 fk36 (fun _ _ _ _ _ _ us hl => match us, hl with | [_], _ => rfl),
    mt_Book_len := methAt_mk fa37 fi37 fl37 fc37 fk37 (fun _ _ _ _ _ _ us hl => match us, hl with | [_], _ => rfl),
    mt_Book_getitem := methAt_mk fa38 fi38 fl38 fc38 fk38 (fun _ _ _ _ _ _ us hl => match us, hl with | [_, _], _ => rfl),
    mt_Book_iter := methAt_mk fa39 fi39 fl39 fc39 fk39 (fun _ _ _ _ _ _ us hl => match us, hl with | [_], _ => rfl),
    mt_Book_eq := methAt_mk fa40 fi40 fl40 fc40 fk40 (fun _ _ _ _ _ _ us hl => match us, hl with | [_, _], _ => rfl),
    mt_Book_add := methAt_mk fa41 fi41 fl41 fc41 fk41 (fun _ _ _ _ _ _ us hl => match us, hl with | [_, _], _ => rfl),
    mt_Book_without := methAt_mk fa42 fi42 fl42 fc42 fk42 (fun _ _ _ _ _ _ us hl => match us, hl with | [_, _], _ => rfl),
    mt_Book_exchanged := methAt_mk fa43 fi43 fl43 fc43 fk43 (fun _ _ _ _ _ _ us hl => match us, hl with | [_, _], _ => rfl),
    mt_Book__has := methAt_mk fa44 fi44 fl44 fc44 fk44 (fun _ _ _ _ _ _ us hl => match us, hl with | [_, _], _ => rfl),
    f__law_pot := fnAt_mk X G fa45 fl45 fc45 fk45 (fun _ _ _ _ _ _ us hl => match us, hl with | [_, _], _ => rfl),
    f__law_dip := fnAt_mk X G fa46 fl46 fc46 fk46 (fun _ _ _ _ _ _ us hl => match us, hl with | [_, _], _ => rfl),
    f__law_name := fnAt_mk X G fa47 fl47 fc47 fk47 (fun _ _ _ _ _ _ us hl => match us, hl with | [_], _ => rfl),
    f__law_desks := fnAt_mk X G fa48 fl48 fc48 fk48 (fun _ _ _ _ _ _ us hl => match us, hl with | [_, _], _ => rfl),
    f__law_status := fnAt_mk X G fa49 fl49 fc49 fk49 (fun _ _ _ _ _ _ us hl => match us, hl with | [_], _ => rfl),
    f__law_test := fnAt_mk X G fa50 fl50 fc50 fk50 (fun _ _ _ _ _ _ us hl => match us, hl with | [_, _], _ => rfl),
    f__law_action := fnAt_mk X G fa51 fl51 fc51 fk51 (fun _ _ _ _ _ _ us hl => match us, hl with | [_, _], _ => rfl),
    f__law_rule := fnAt_mk X G fa52 fl52 fc52 fk52 (fun _ _ _ _ _ _ us hl => match us, hl with | [_, _, _], _ => rfl),
    f__law_deed := fnAt_mk X G fa53 fl53 fc53 fk53 (fun _ _ _ _ _ _ us hl => match us, hl with | [_, _], _ => rfl),
    f__law_bad := fnAt_mk X G fa54 fl54 fc54 fk54 (fun _ _ _ _ _ _ us hl => match us, hl with | [_, _, _], _ => rfl),
    f__law_refused := fnAt_mk X G fa55 fl55 fc55 fk55 (fun _ _ _ _ _ _ us hl => match us, hl with | [_, _, _], _ => rfl),
    f__law_both := fnAt_mk X G fa56 fl56 fc56 fk56 (fun _ _ _ _ _ _ us hl => match us, hl with | [_, _, _], _ => rfl),
    f__law_any_base := fnAt_mk X G fa57 fl57 fc57 fk57 (fun _ _ _ _ _ _ us hl => match us, hl with | [_, _], _ => rfl),
    f__law_right := fnAt_mk X G fa58 fl58 fc58 fk58 (fun _ _ _ _ _ _ us hl => match us, hl with | [_], _ => rfl),
    f_law := fnAt_mk X G fa59 fl59 fc59 fk59 (fun _ _ _ _ _ _ us hl => match us, hl with | [_], _ => rfl) }
end Ld

open PySem PySem.W PyProof.Rows
set_option maxRecDepth 100000 in
set_option maxHeartbeats 0 in
theorem PySem.Challenge.cw_lettersdesk_k27_deeds_refused_holds : PySem.Challenge.rw_lettersdesk_k27_deeds_refused.Holds := by
  w_on; o_law; k_head; (case hw => w_witness2)
  k_fill
  refine Ld.walk_law (l := PySem.Challenge.rw_lettersdesk_k27_deeds_refused) rfl rfl rfl (fun w h Y => PySem.W.kIn_of Y) ?F
  case F =>
    intro w mg h KX G
    apply Exists.intro
    refine' Ld.tx_mk KX G ?b_ValueError ?b_abs ?b_all ?b_bool ?b_enumerate ?b_int ?b_isinstance ?b_len ?b_list ?b_max ?b_min ?b_range ?b_set ?b_str ?b_super ?b_tuple ?b_zip ?g_LETTERS ?g_LONGEST_NAME ?g_MOST_DESKS ?g_MOST_TESTS ?g_MOST_ACTIONS ?g_MOST_DAYS ?g_STATUSES ?v_STATUSES ?g_EVENTS ?v_EVENTS ?g_TEST_FORMS ?v_TEST_FORMS ?g_ACTION_FORMS ?v_ACTION_FORMS ?g_DEED_FORMS ?v_DEED_FORMS ?g_MOST_EVENTS ?g_MOST_RULES ?c_DeskError ?c_NoDesks ?c_NoRule ?c_NoDeed ?c_NoTicket ?c_Effect ?c_Turn ?c_Works ?c_Book ?tg_class ?tt_class ?pg_Effect ?hd_Effect ?po_Effect ?sa_Effect ?sf_Effect ?nf_Effect ?ty_Effect ?mo_Effect ?na_Effect_events ?na_Effect_acted ?na_Effect_sent ?na_Effect_closed_by_rule ?na_Effect_sent_twice ?na_Effect_status ?na_Effect_desk ?na_Effect_answered ?na_Effect_days ?na_Effect_marked ?pg_Turn ?hd_Turn ?po_Turn ?sa_Turn ?sf_Turn ?nf_Turn ?ty_Turn ?mo_Turn ?na_Turn_event ?na_Turn_behind ?na_Turn_acted ?na_Turn_sent ?na_Turn_endless ?na_Turn_closed_by_rule ?na_Turn_sent_twice ?na_Turn_kinds ?pg_Works ?hd_Works ?po_Works ?sa_Works ?sf_Works ?nf_Works ?ty_Works ?mo_Works ?na_Works_rulebook ?na_Works__rules_at ?na_Works__effects ?pg_Book ?hd_Book ?po_Book ?sa_Book ?sf_Book ?nf_Book ?ty_Book ?mo_Book ?na_Book__desks ?na_Book__rules ?qa_NoDeed ?qb_NoDeed ?kj_NoDeed_NoTicket ?kj_NoDeed_ValueError ?kj_NoDeed_DeskError ?kj_NoDeed_NoDeed ?qa_NoTicket ?qb_NoTicket ?kj_NoTicket_NoTicket ?kj_NoTicket_ValueError ?kj_NoTicket_DeskError ?kj_NoTicket_NoDeed ?xn_NoTicket_NoDeed ?xn_NoDeed_NoTicket ?xn_NoDeed_DeskError ?xn_NoTicket_DeskError ?xm_DeskError ?xq_DeskError ?xk_DeskError ?xe_DeskError ?xt_DeskError ?xm_NoDesks ?xq_NoDesks ?xk_NoDesks ?xe_NoDesks ?xt_NoDesks ?xm_NoRule ?xc_NoRule ?xr_NoRule ?xinI_NoRule ?xsa_NoRule ?xga_NoRule ?xgg_NoRule ?xnoN_NoRule ?xiC_NoRule ?xtC_NoRule ?xkC_NoRule ?xexC_NoRule ?xexV_NoRule ?xtyC_NoRule ?xhdC_NoRule ?xmro_NoRule ?xabove_NoRule ?xf_NoRule ?xd_NoRule ?xa_NoRule ?xv_NoRule ?xw_NoRule ?xx_NoRule ?xm_NoDeed ?xc_NoDeed ?xr_NoDeed ?xinI_NoDeed ?xsa_NoDeed ?xga_NoDeed ?xgg_NoDeed ?xnoN_NoDeed ?xiC_NoDeed ?xtC_NoDeed ?xkC_NoDeed ?xexC_NoDeed ?xexV_NoDeed ?xtyC_NoDeed ?xhdC_NoDeed ?xmro_NoDeed ?xabove_NoDeed ?xf_NoDeed ?xd_NoDeed ?xa_NoDeed ?xv_NoDeed ?xw_NoDeed ?xx_NoDeed ?xm_NoTicket ?xc_NoTicket ?xr_NoTicket ?xinI_NoTicket ?xsa_NoTicket ?xga_NoTicket ?xgg_NoTicket ?xnoN_NoTicket ?xiC_NoTicket ?xtC_NoTicket ?xkC_NoTicket ?xexC_NoTicket ?xexV_NoTicket ?xtyC_NoTicket ?xhdC_NoTicket ?xmro_NoTicket ?xabove_NoTicket ?xf_NoTicket ?xd_NoTicket ?xa_NoTicket ?xv_NoTicket ?xw_NoTicket ?xx_NoTicket ?opq ?htop ?fa1 ?fl1 ?fc1 ?fk1 ?fa2 ?fl2 ?fc2 ?fk2 ?fa3 ?fl3 ?fc3 ?fk3 ?fa4 ?fl4 ?fc4 ?fk4 ?fa5 ?fl5 ?fc5 ?fk5 ?fa6 ?fl6 ?fc6 ?fk6 ?fa7 ?fl7 ?fc7 ?fk7 ?fa8 ?fl8 ?fc8 ?fk8 ?fa9 ?fl9 ?fc9 ?fk9 ?fa10 ?fl10 ?fc10 ?fk10 ?fa11 ?fl11 ?fc11 ?fk11 ?fa12 ?fi12 ?fl12 ?fc12 ?fk12 ?mk_Effect ?kc_Effect ?fa13 ?fi13 ?fl13 ?fc13 ?fk13 ?fa14 ?fi14 ?fl14 ?fc14 ?fk14 ?fa15 ?fi15 ?fl15 ?fc15 ?fk15 ?fa16 ?fi16 ?fl16 ?fc16 ?fk16 ?fa17 ?fi17 ?fl17 ?fc17 ?fk17 ?fa18 ?fi18 ?fl18 ?fc18 ?fk18 ?fa19 ?fi19 ?fl19 ?fc19 ?fk19 ?fa20 ?fi20 ?fl20 ?fc20 ?fk20 ?mk_Turn ?kc_Turn ?fa21 ?fi21 ?fl21 ?fc21 ?fk21 ?fa22 ?fi22 ?fl22 ?fc22 ?fk22 ?fa23 ?fi23 ?fl23 ?fc23 ?fk23 ?fa24 ?fi24 ?fl24 ?fc24 ?fk24 ?fa25 ?fi25 ?fl25 ?fc25 ?fk25 ?mk_Works ?kc_Works ?fa26 ?fi26 ?fl26 ?fc26 ?fk26 ?fa27 ?fi27 ?fl27 ?fc27 ?fk27 ?fa28 ?fi28 ?fl28 ?fc28 ?fk28 ?fa29 ?fi29 ?fl29 ?fc29 ?fk29 ?fa30 ?fl30 ?fc30 ?fk30 ?fa31 ?fl31 ?fc31 ?fk31 ?fa32 ?fl32 ?fc32 ?fk32 ?fa33 ?fl33 ?fc33 ?fk33 ?fa34 ?fi34 ?fl34 ?fc34 ?fk34 ?mk_Book ?kc_Book ?fa35 ?fi35 ?fl35 ?fc35 ?fk35 ?fa36 ?fi36 ?fl36 ?fc36 ?fk36 ?fa37 ?fi37 ?fl37 ?fc37 ?fk37 ?fa38 ?fi38 ?fl38 ?fc38 ?fk38 ?fa39 ?fi39 ?fl39 ?fc39 ?fk39 ?fa40 ?fi40 ?fl40 ?fc40 ?fk40 ?fa41 ?fi41 ?fl41 ?fc41 ?fk41 ?fa42 ?fi42 ?fl42 ?fc42 ?fk42 ?fa43 ?fi43 ?fl43 ?fc43 ?fk43 ?fa44 ?fi44 ?fl44 ?fc44 ?fk44 ?fa45 ?fl45 ?fc45 ?fk45 ?fa46 ?fl46 ?fc46 ?fk46 ?fa47 ?fl47 ?fc47 ?fk47 ?fa48 ?fl48 ?fc48 ?fk48 ?fa49 ?fl49 ?fc49 ?fk49 ?fa50 ?fl50 ?fc50 ?fk50 ?fa51 ?fl51 ?fc51 ?fk51 ?fa52 ?fl52 ?fc52 ?fk52 ?fa53 ?fl53 ?fc53 ?fk53 ?fa54 ?fl54 ?fc54 ?fk54 ?fa55 ?fl55 ?fc55 ?fk55 ?fa56 ?fl56 ?fc56 ?fk56 ?fa57 ?fl57 ?fc57 ?fk57 ?fa58 ?fl58 ?fc58 ?fk58 ?fa59 ?fl59 ?fc59 ?fk59
    (case b_ValueError => first | k_is | kernel_rfl | rfl)
    (case b_abs => first | k_is | kernel_rfl | rfl)
    (case b_all => first | k_is | kernel_rfl | rfl)
    (case b_bool => first | k_is | kernel_rfl | rfl)
    (case b_enumerate => first | k_is | kernel_rfl | rfl)
    (case b_int => first | k_is | kernel_rfl | rfl)
    (case b_isinstance => first | k_is | kernel_rfl | rfl)
    (case b_len => first | k_is | kernel_rfl | rfl)
    (case b_list => first | k_is | kernel_rfl | rfl)
    (case b_max => first | k_is | kernel_rfl | rfl)
    (case b_min => first | k_is | kernel_rfl | rfl)
    (case b_range => first | k_is | kernel_rfl | rfl)
    (case b_set => first | k_is | kernel_rfl | rfl)
    (case b_str => first | k_is | kernel_rfl | rfl)
    (case b_super => first | k_is | kernel_rfl | rfl)
    (case b_tuple => first | k_is | kernel_rfl | rfl)
    (case b_zip => first | k_is | kernel_rfl | rfl)
    (case g_LETTERS => first | k_is | kernel_rfl | rfl)
    (case g_LONGEST_NAME => first | k_is | kernel_rfl | rfl)
    (case g_MOST_DESKS => first | k_is | kernel_rfl | rfl)
    (case g_MOST_TESTS => first | k_is | kernel_rfl | rfl)
    (case g_MOST_ACTIONS => first | k_is | kernel_rfl | rfl)
    (case g_MOST_DAYS => first | k_is | kernel_rfl | rfl)
    (case g_STATUSES => first | k_is | kernel_rfl | rfl)
    (case v_STATUSES => first | kernel_rfl | kernel_rfl | rfl)
    (case g_EVENTS => first | k_is | kernel_rfl | rfl)
    (case v_EVENTS => first | kernel_rfl | kernel_rfl | rfl)
    (case g_TEST_FORMS => first | k_is | kernel_rfl | rfl)
    (case v_TEST_FORMS => first | kernel_rfl | kernel_rfl | rfl)
    (case g_ACTION_FORMS => first | k_is | kernel_rfl | rfl)
    (case v_ACTION_FORMS => first | kernel_rfl | kernel_rfl | rfl)
    (case g_DEED_FORMS => first | k_is | kernel_rfl | rfl)
    (case v_DEED_FORMS => first | kernel_rfl | kernel_rfl | rfl)
    (case g_MOST_EVENTS => first | k_is | kernel_rfl | rfl)
    (case g_MOST_RULES => first | k_is | kernel_rfl | rfl)
    (case c_DeskError => first | k_is | kernel_rfl | rfl)
    (case c_NoDesks => first | k_is | kernel_rfl | rfl)
    (case c_NoRule => first | k_is | kernel_rfl | rfl)
    (case c_NoDeed => first | k_is | kernel_rfl | rfl)
    (case c_NoTicket => first | k_is | kernel_rfl | rfl)
    (case c_Effect => first | k_is | kernel_rfl | rfl)
    (case c_Turn => first | k_is | kernel_rfl | rfl)
    (case c_Works => first | k_is | kernel_rfl | rfl)
    (case c_Book => first | k_is | kernel_rfl | rfl)
    (case tg_class => first | k_is | kernel_rfl | rfl)
    (case tt_class => first | k_is | kernel_rfl | rfl)
    (case pg_Effect => first | k_is | kernel_rfl | rfl)
    (case hd_Effect => first | k_is | kernel_rfl | rfl)
    (case po_Effect => first | k_is | kernel_rfl | rfl)
    (case sa_Effect => first | k_is | kernel_rfl | rfl)
    (case sf_Effect => first | k_is | kernel_rfl | rfl)
    (case nf_Effect => first | k_is | kernel_rfl | rfl)
    (case ty_Effect => first | k_is | kernel_rfl | rfl)
    (case mo_Effect => first | k_is | kernel_rfl | rfl)
    (case na_Effect_events => first | k_is | kernel_rfl | rfl)
    (case na_Effect_acted => first | k_is | kernel_rfl | rfl)
    (case na_Effect_sent => first | k_is | kernel_rfl | rfl)
    (case na_Effect_closed_by_rule => first | k_is | kernel_rfl | rfl)
    (case na_Effect_sent_twice => first | k_is | kernel_rfl | rfl)
    (case na_Effect_status => first | k_is | kernel_rfl | rfl)
    (case na_Effect_desk => first | k_is | kernel_rfl | rfl)
    (case na_Effect_answered => first | k_is | kernel_rfl | rfl)
    (case na_Effect_days => first | k_is | kernel_rfl | rfl)
    (case na_Effect_marked => first | k_is | kernel_rfl | rfl)
    (case pg_Turn => first | k_is | kernel_rfl | rfl)
    (case hd_Turn => first | k_is | kernel_rfl | rfl)
    (case po_Turn => first | k_is | kernel_rfl | rfl)
    (case sa_Turn => first | k_is | kernel_rfl | rfl)
    (case sf_Turn => first | k_is | kernel_rfl | rfl)
    (case nf_Turn => first | k_is | kernel_rfl | rfl)
    (case ty_Turn => first | k_is | kernel_rfl | rfl)
    (case mo_Turn => first | k_is | kernel_rfl | rfl)
    (case na_Turn_event => first | k_is | kernel_rfl | rfl)
    (case na_Turn_behind => first | k_is | kernel_rfl | rfl)
    (case na_Turn_acted => first | k_is | kernel_rfl | rfl)
    (case na_Turn_sent => first | k_is | kernel_rfl | rfl)
    (case na_Turn_endless => first | k_is | kernel_rfl | rfl)
    (case na_Turn_closed_by_rule => first | k_is | kernel_rfl | rfl)
    (case na_Turn_sent_twice => first | k_is | kernel_rfl | rfl)
    (case na_Turn_kinds => first | k_is | kernel_rfl | rfl)
    (case pg_Works => first | k_is | kernel_rfl | rfl)
    (case hd_Works => first | k_is | kernel_rfl | rfl)
    (case po_Works => first | k_is | kernel_rfl | rfl)
    (case sa_Works => first | k_is | kernel_rfl | rfl)
    (case sf_Works => first | k_is | kernel_rfl | rfl)
    (case nf_Works => first | k_is | kernel_rfl | rfl)
    (case ty_Works => first | k_is | kernel_rfl | rfl)
    (case mo_Works => first | k_is | kernel_rfl | rfl)
    (case na_Works_rulebook => first | k_is | kernel_rfl | rfl)
    (case na_Works__rules_at => first | k_is | kernel_rfl | rfl)
    (case na_Works__effects => first | k_is | kernel_rfl | rfl)
    (case pg_Book => first | k_is | kernel_rfl | rfl)
    (case hd_Book => first | k_is | kernel_rfl | rfl)
    (case po_Book => first | k_is | kernel_rfl | rfl)
    (case sa_Book => first | k_is | kernel_rfl | rfl)
    (case sf_Book => first | k_is | kernel_rfl | rfl)
    (case nf_Book => first | k_is | kernel_rfl | rfl)
    (case ty_Book => first | k_is | kernel_rfl | rfl)
    (case mo_Book => first | k_is | kernel_rfl | rfl)
    (case na_Book__desks => first | k_is | kernel_rfl | rfl)
    (case na_Book__rules => first | k_is | kernel_rfl | rfl)
    (case qa_NoDeed => first | k_is | kernel_rfl | rfl)
    (case qb_NoDeed => first | k_is | kernel_rfl | rfl)
    (case kj_NoDeed_NoTicket => first | kit_is | kernel_rfl | rfl)
    (case kj_NoDeed_ValueError => first | kit_is | kernel_rfl | rfl)
    (case kj_NoDeed_DeskError => first | kit_is | kernel_rfl | rfl)
    (case kj_NoDeed_NoDeed => first | kit_is | kernel_rfl | rfl)
    (case qa_NoTicket => first | k_is | kernel_rfl | rfl)
    (case qb_NoTicket => first | k_is | kernel_rfl | rfl)
    (case kj_NoTicket_NoTicket => first | kit_is | kernel_rfl | rfl)
    (case kj_NoTicket_ValueError => first | kit_is | kernel_rfl | rfl)
    (case kj_NoTicket_DeskError => first | kit_is | kernel_rfl | rfl)
    (case kj_NoTicket_NoDeed => first | kit_is | kernel_rfl | rfl)
    (case xn_NoTicket_NoDeed => first | k_is | kernel_rfl | rfl)
    (case xn_NoDeed_NoTicket => first | k_is | kernel_rfl | rfl)
    (case xn_NoDeed_DeskError => first | k_is | kernel_rfl | rfl)
    (case xn_NoTicket_DeskError => first | k_is | kernel_rfl | rfl)
    (case xm_DeskError => first | k_is | kernel_rfl | rfl)
    (case xq_DeskError => first | k_is | kernel_rfl | rfl)
    (case xk_DeskError => first | k_is | kernel_rfl | rfl)
    (case xe_DeskError => first | k_is | kernel_rfl | rfl)
    (case xt_DeskError => first | k_is | kernel_rfl | rfl)
    (case xm_NoDesks => first | k_is | kernel_rfl | rfl)
    (case xq_NoDesks => first | k_is | kernel_rfl | rfl)
    (case xk_NoDesks => first | k_is | kernel_rfl | rfl)
    (case xe_NoDesks => first | k_is | kernel_rfl | rfl)
    (case xt_NoDesks => first | k_is | kernel_rfl | rfl)
    (case xm_NoRule => first | k_is | kernel_rfl | rfl)
    (case xc_NoRule => first | k_is | kernel_rfl | rfl)
    (case xr_NoRule => first | rfl | kernel_rfl | rfl)
    (case xinI_NoRule => first | k_is | kernel_rfl | rfl)
    (case xsa_NoRule => first | k_is | kernel_rfl | rfl)
    (case xga_NoRule => first | k_is | kernel_rfl | rfl)
    (case xgg_NoRule => first | k_is | kernel_rfl | rfl)
    (case xnoN_NoRule => first | k_is | kernel_rfl | rfl)
    (case xiC_NoRule => first | k_is | kernel_rfl | rfl)
    (case xtC_NoRule => first | k_is | kernel_rfl | rfl)
    (case xkC_NoRule => first | k_is | kernel_rfl | rfl)
    (case xexC_NoRule => first | k_is | kernel_rfl | rfl)
    (case xexV_NoRule => first | k_is | kernel_rfl | rfl)
    (case xtyC_NoRule => first | k_is | kernel_rfl | rfl)
    (case xhdC_NoRule => first | k_is | kernel_rfl | rfl)
    (case xmro_NoRule => first | k_is | kernel_rfl | rfl)
    (case xabove_NoRule => first | k_is | kernel_rfl | rfl)
    (case xf_NoRule => first | k_is | kernel_rfl | rfl)
    (case xd_NoRule => first | k_is | kernel_rfl | rfl)
    (case xa_NoRule => first | k_is | kernel_rfl | rfl)
    (case xv_NoRule => first | rfl | kernel_rfl | rfl)
    (case xw_NoRule => first | rfl | kernel_rfl | rfl)
    (case xx_NoRule => first | k_is | kernel_rfl | rfl)
    (case xm_NoDeed => first | k_is | kernel_rfl | rfl)
    (case xc_NoDeed => first | k_is | kernel_rfl | rfl)
    (case xr_NoDeed => first | rfl | kernel_rfl | rfl)
    (case xinI_NoDeed => first | k_is | kernel_rfl | rfl)
    (case xsa_NoDeed => first | k_is | kernel_rfl | rfl)
    (case xga_NoDeed => first | k_is | kernel_rfl | rfl)
    (case xgg_NoDeed => first | k_is | kernel_rfl | rfl)
    (case xnoN_NoDeed => first | k_is | kernel_rfl | rfl)
    (case xiC_NoDeed => first | k_is | kernel_rfl | rfl)
    (case xtC_NoDeed => first | k_is | kernel_rfl | rfl)
    (case xkC_NoDeed => first | k_is | kernel_rfl | rfl)
    (case xexC_NoDeed => first | k_is | kernel_rfl | rfl)
    (case xexV_NoDeed => first | k_is | kernel_rfl | rfl)
    (case xtyC_NoDeed => first | k_is | kernel_rfl | rfl)
    (case xhdC_NoDeed => first | k_is | kernel_rfl | rfl)
    (case xmro_NoDeed => first | k_is | kernel_rfl | rfl)
    (case xabove_NoDeed => first | k_is | kernel_rfl | rfl)
    (case xf_NoDeed => first | k_is | kernel_rfl | rfl)
    (case xd_NoDeed => first | k_is | kernel_rfl | rfl)
    (case xa_NoDeed => first | k_is | kernel_rfl | rfl)
    (case xv_NoDeed => first | rfl | kernel_rfl | rfl)
    (case xw_NoDeed => first | rfl | kernel_rfl | rfl)
    (case xx_NoDeed => first | k_is | kernel_rfl | rfl)
    (case xm_NoTicket => first | k_is | kernel_rfl | rfl)
    (case xc_NoTicket => first | k_is | kernel_rfl | rfl)
    (case xr_NoTicket => first | rfl | kernel_rfl | rfl)
    (case xinI_NoTicket => first | k_is | kernel_rfl | rfl)
    (case xsa_NoTicket => first | k_is | kernel_rfl | rfl)
    (case xga_NoTicket => first | k_is | kernel_rfl | rfl)
    (case xgg_NoTicket => first | k_is | kernel_rfl | rfl)
    (case xnoN_NoTicket => first | k_is | kernel_rfl | rfl)
    (case xiC_NoTicket => first | k_is | kernel_rfl | rfl)
    (case xtC_NoTicket => first | k_is | kernel_rfl | rfl)
    (case xkC_NoTicket => first | k_is | kernel_rfl | rfl)
    (case xexC_NoTicket => first | k_is | kernel_rfl | rfl)
    (case xexV_NoTicket => first | k_is | kernel_rfl | rfl)
    (case xtyC_NoTicket => first | k_is | kernel_rfl | rfl)
    (case xhdC_NoTicket => first | k_is | kernel_rfl | rfl)
    (case xmro_NoTicket => first | k_is | kernel_rfl | rfl)
    (case xabove_NoTicket => first | k_is | kernel_rfl | rfl)
    (case xf_NoTicket => first | k_is | kernel_rfl | rfl)
    (case xd_NoTicket => first | k_is | kernel_rfl | rfl)
    (case xa_NoTicket => first | k_is | kernel_rfl | rfl)
    (case xv_NoTicket => first | rfl | kernel_rfl | rfl)
    (case xw_NoTicket => first | rfl | kernel_rfl | rfl)
    (case xx_NoTicket => first | k_is | kernel_rfl | rfl)
    (case opq => first | k_is | kernel_rfl | rfl)
    (case htop => first | rfl | kernel_rfl | rfl)
    (case fa1 => first | k_is | kernel_rfl | rfl)
    (case fl1 => first | k_is | kernel_rfl | rfl)
    (case fc1 => first | k_is | kernel_rfl | rfl)
    (case fk1 => first | k_is | kernel_rfl | rfl)
    (case fa2 => first | k_is | kernel_rfl | rfl)
    (case fl2 => first | k_is | kernel_rfl | rfl)
    (case fc2 => first | k_is | kernel_rfl | rfl)
    (case fk2 => first | k_is | kernel_rfl | rfl)
    (case fa3 => first | k_is | kernel_rfl | rfl)
    (case fl3 => first | k_is | kernel_rfl | rfl)
    (case fc3 => first | k_is | kernel_rfl | rfl)
    (case fk3 => first | k_is | kernel_rfl | rfl)
    (case fa4 => first | k_is | kernel_rfl | rfl)
    (case fl4 => first | k_is | kernel_rfl | rfl)
    (case fc4 => first | k_is | kernel_rfl | rfl)
    (case fk4 => first | k_is | kernel_rfl | rfl)
    (case fa5 => first | k_is | kernel_rfl | rfl)
    (case fl5 => first | k_is | kernel_rfl | rfl)
    (case fc5 => first | k_is | kernel_rfl | rfl)
    (case fk5 => first | k_is | kernel_rfl | rfl)
    (case fa6 => first | k_is | kernel_rfl | rfl)
    (case fl6 => first | k_is | kernel_rfl | rfl)
    (case fc6 => first | k_is | kernel_rfl | rfl)
    (case fk6 => first | k_is | kernel_rfl | rfl)
    (case fa7 => first | k_is | kernel_rfl | rfl)
    (case fl7 => first | k_is | kernel_rfl | rfl)
    (case fc7 => first | k_is | kernel_rfl | rfl)
    (case fk7 => first | k_is | kernel_rfl | rfl)
    (case fa8 => first | k_is | kernel_rfl | rfl)
    (case fl8 => first | k_is | kernel_rfl | rfl)
    (case fc8 => first | k_is | kernel_rfl | rfl)
    (case fk8 => first | k_is | kernel_rfl | rfl)
    (case fa9 => first | k_is | kernel_rfl | rfl)
    (case fl9 => first | k_is | kernel_rfl | rfl)
    (case fc9 => first | k_is | kernel_rfl | rfl)
    (case fk9 => first | k_is | kernel_rfl | rfl)
    (case fa10 => first | k_is | kernel_rfl | rfl)
    (case fl10 => first | k_is | kernel_rfl | rfl)
    (case fc10 => first | k_is | kernel_rfl | rfl)
    (case fk10 => first | k_is | kernel_rfl | rfl)
    (case fa11 => first | k_is | kernel_rfl | rfl)
    (case fl11 => first | k_is | kernel_rfl | rfl)
    (case fc11 => first | k_is | kernel_rfl | rfl)
    (case fk11 => first | k_is | kernel_rfl | rfl)
    (case fa12 => first | k_is | kernel_rfl | rfl)
    (case fi12 => first | k_is | kernel_rfl | rfl)
    (case fl12 => first | k_is | kernel_rfl | rfl)
    (case fc12 => first | k_is | kernel_rfl | rfl)
    (case fk12 => first | k_is | kernel_rfl | rfl)
    (case mk_Effect => first | k_is | kernel_rfl | rfl)
    (case kc_Effect => first | k_is | kernel_rfl | rfl)
    (case fa13 => first | k_is | kernel_rfl | rfl)
    (case fi13 => first | k_is | kernel_rfl | rfl)
    (case fl13 => first | k_is | kernel_rfl | rfl)
    (case fc13 => first | k_is | kernel_rfl | rfl)
    (case fk13 => first | k_is | kernel_rfl | rfl)
    (case fa14 => first | k_is | kernel_rfl | rfl)
    (case fi14 => first | k_is | kernel_rfl | rfl)
    (case fl14 => first | k_is | kernel_rfl | rfl)
    (case fc14 => first | k_is | kernel_rfl | rfl)
    (case fk14 => first | k_is | kernel_rfl | rfl)
    (case fa15 => first | k_is | kernel_rfl | rfl)
    (case fi15 => first | k_is | kernel_rfl | rfl)
    (case fl15 => first | k_is | kernel_rfl | rfl)
    (case fc15 => first | k_is | kernel_rfl | rfl)
    (case fk15 => first | k_is | kernel_rfl | rfl)
    (case fa16 => first | k_is | kernel_rfl | rfl)
    (case fi16 => first | k_is | kernel_rfl | rfl)
    (case fl16 => first | k_is | kernel_rfl | rfl)
    (case fc16 => first | k_is | kernel_rfl | rfl)
    (case fk16 => first | k_is | kernel_rfl | rfl)
    (case fa17 => first | k_is | kernel_rfl | rfl)
    (case fi17 => first | k_is | kernel_rfl | rfl)
    (case fl17 => first | k_is | kernel_rfl | rfl)
    (case fc17 => first | k_is | kernel_rfl | rfl)
    (case fk17 => first | k_is | kernel_rfl | rfl)
    (case fa18 => first | k_is | kernel_rfl | rfl)
    (case fi18 => first | k_is | kernel_rfl | rfl)
    (case fl18 => first | k_is | kernel_rfl | rfl)
    (case fc18 => first | k_is | kernel_rfl | rfl)
    (case fk18 => first | k_is | kernel_rfl | rfl)
    (case fa19 => first | k_is | kernel_rfl | rfl)
    (case fi19 => first | k_is | kernel_rfl | rfl)
    (case fl19 => first | k_is | kernel_rfl | rfl)
    (case fc19 => first | k_is | kernel_rfl | rfl)
    (case fk19 => first | k_is | kernel_rfl | rfl)
    (case fa20 => first | k_is | kernel_rfl | rfl)
    (case fi20 => first | k_is | kernel_rfl | rfl)
    (case fl20 => first | k_is | kernel_rfl | rfl)
    (case fc20 => first | k_is | kernel_rfl | rfl)
    (case fk20 => first | k_is | kernel_rfl | rfl)
    (case mk_Turn => first | k_is | kernel_rfl | rfl)
    (case kc_Turn => first | k_is | kernel_rfl | rfl)
    (case fa21 => first | k_is | kernel_rfl | rfl)
    (case fi21 => first | k_is | kernel_rfl | rfl)
    (case fl21 => first | k_is | kernel_rfl | rfl)
    (case fc21 => first | k_is | kernel_rfl | rfl)
    (case fk21 => first | k_is | kernel_rfl | rfl)
    (case fa22 => first | k_is | kernel_rfl | rfl)
    (case fi22 => first | k_is | kernel_rfl | rfl)
    (case fl22 => first | k_is | kernel_rfl | rfl)
    (case fc22 => first | k_is | kernel_rfl | rfl)
    (case fk22 => first | k_is | kernel_rfl | rfl)
    (case fa23 => first | k_is | kernel_rfl | rfl)
    (case fi23 => first | k_is | kernel_rfl | rfl)
    (case fl23 => first | k_is | kernel_rfl | rfl)
    (case fc23 => first | k_is | kernel_rfl | rfl)
    (case fk23 => first | k_is | kernel_rfl | rfl)
    (case fa24 => first | k_is | kernel_rfl | rfl)
    (case fi24 => first | k_is | kernel_rfl | rfl)
    (case fl24 => first | k_is | kernel_rfl | rfl)
    (case fc24 => first | k_is | kernel_rfl | rfl)
    (case fk24 => first | k_is | kernel_rfl | rfl)
    (case fa25 => first | k_is | kernel_rfl | rfl)
    (case fi25 => first | k_is | kernel_rfl | rfl)
    (case fl25 => first | k_is | kernel_rfl | rfl)
    (case fc25 => first | k_is | kernel_rfl | rfl)
    (case fk25 => first | k_is | kernel_rfl | rfl)
    (case mk_Works => first | k_is | kernel_rfl | rfl)
    (case kc_Works => first | k_is | kernel_rfl | rfl)
    (case fa26 => first | k_is | kernel_rfl | rfl)
    (case fi26 => first | k_is | kernel_rfl | rfl)
    (case fl26 => first | k_is | kernel_rfl | rfl)
    (case fc26 => first | k_is | kernel_rfl | rfl)
    (case fk26 => first | k_is | kernel_rfl | rfl)
    (case fa27 => first | k_is | kernel_rfl | rfl)
    (case fi27 => first | k_is | kernel_rfl | rfl)
    (case fl27 => first | k_is | kernel_rfl | rfl)
    (case fc27 => first | k_is | kernel_rfl | rfl)
    (case fk27 => first | k_is | kernel_rfl | rfl)
    (case fa28 => first | k_is | kernel_rfl | rfl)
    (case fi28 => first | k_is | kernel_rfl | rfl)
    (case fl28 => first | k_is | kernel_rfl | rfl)
    (case fc28 => first | k_is | kernel_rfl | rfl)
    (case fk28 => first | k_is | kernel_rfl | rfl)
    (case fa29 => first | k_is | kernel_rfl | rfl)
    (case fi29 => first | k_is | kernel_rfl | rfl)
    (case fl29 => first | k_is | kernel_rfl | rfl)
    (case fc29 => first | k_is | kernel_rfl | rfl)
    (case fk29 => first | k_is | kernel_rfl | rfl)
    (case fa30 => first | k_is | kernel_rfl | rfl)
    (case fl30 => first | k_is | kernel_rfl | rfl)
    (case fc30 => first | k_is | kernel_rfl | rfl)
    (case fk30 => first | k_is | kernel_rfl | rfl)
    (case fa31 => first | k_is | kernel_rfl | rfl)
    (case fl31 => first | k_is | kernel_rfl | rfl)
    (case fc31 => first | k_is | kernel_rfl | rfl)
    (case fk31 => first | k_is | kernel_rfl | rfl)
    (case fa32 => first | k_is | kernel_rfl | rfl)
    (case fl32 => first | k_is | kernel_rfl | rfl)
    (case fc32 => first | k_is | kernel_rfl | rfl)
    (case fk32 => first | k_is | kernel_rfl | rfl)
    (case fa33 => first | k_is | kernel_rfl | rfl)
    (case fl33 => first | k_is | kernel_rfl | rfl)
    (case fc33 => first | k_is | kernel_rfl | rfl)
    (case fk33 => first | k_is | kernel_rfl | rfl)
    (case fa34 => first | k_is | kernel_rfl | rfl)
    (case fi34 => first | k_is | kernel_rfl | rfl)
    (case fl34 => first | k_is | kernel_rfl | rfl)
    (case fc34 => first | k_is | kernel_rfl | rfl)
    (case fk34 => first | k_is | kernel_rfl | rfl)
    (case mk_Book => first | k_is | kernel_rfl | rfl)
    (case kc_Book => first | k_is | kernel_rfl | rfl)
    (case fa35 => first | k_is | kernel_rfl | rfl)
    (case fi35 => first | k_is | kernel_rfl | rfl)
    (case fl35 => first | k_is | kernel_rfl | rfl)
    (case fc35 => first | k_is | kernel_rfl | rfl)
    (case fk35 => first | k_is | kernel_rfl | rfl)
    (case fa36 => first | k_is | kernel_rfl | rfl)
    (case fi36 => first | k_is | kernel_rfl | rfl)
    (case fl36 => first | k_is | kernel_rfl | rfl)
    (case fc36 => first | k_is | kernel_rfl | rfl)
    (case fk36 => first | k_is | kernel_rfl | rfl)
    (case fa37 => first | k_is | kernel_rfl | rfl)
    (case fi37 => first | k_is | kernel_rfl | rfl)
    (case fl37 => first | k_is | kernel_rfl | rfl)
    (case fc37 => first | k_is | kernel_rfl | rfl)
    (case fk37 => first | k_is | kernel_rfl | rfl)
    (case fa38 => first | k_is | kernel_rfl | rfl)
    (case fi38 => first | k_is | kernel_rfl | rfl)
    (case fl38 => first | k_is | kernel_rfl | rfl)
    (case fc38 => first | k_is | kernel_rfl | rfl)
    (case fk38 => first | k_is | kernel_rfl | rfl)
    (case fa39 => first | k_is | kernel_rfl | rfl)
    (case fi39 => first | k_is | kernel_rfl | rfl)
    (case fl39 => first | k_is | kernel_rfl | rfl)
    (case fc39 => first | k_is | kernel_rfl | rfl)
    (case fk39 => first | k_is | kernel_rfl | rfl)
    (case fa40 => first | k_is | kernel_rfl | rfl)
    (case fi40 => first | k_is | kernel_rfl | rfl)
    (case fl40 => first | k_is | kernel_rfl | rfl)
    (case fc40 => first | k_is | kernel_rfl | rfl)
    (case fk40 => first | k_is | kernel_rfl | rfl)
    (case fa41 => first | k_is | kernel_rfl | rfl)
    (case fi41 => first | k_is | kernel_rfl | rfl)
    (case fl41 => first | k_is | kernel_rfl | rfl)
    (case fc41 => first | k_is | kernel_rfl | rfl)
    (case fk41 => first | k_is | kernel_rfl | rfl)
    (case fa42 => first | k_is | kernel_rfl | rfl)
    (case fi42 => first | k_is | kernel_rfl | rfl)
    (case fl42 => first | k_is | kernel_rfl | rfl)
    (case fc42 => first | k_is | kernel_rfl | rfl)
    (case fk42 => first | k_is | kernel_rfl | rfl)
    (case fa43 => first | k_is | kernel_rfl | rfl)
    (case fi43 => first | k_is | kernel_rfl | rfl)
    (case fl43 => first | k_is | kernel_rfl | rfl)
    (case fc43 => first | k_is | kernel_rfl | rfl)
    (case fk43 => first | k_is | kernel_rfl | rfl)
    (case fa44 => first | k_is | kernel_rfl | rfl)
    (case fi44 => first | k_is | kernel_rfl | rfl)
    (case fl44 => first | k_is | kernel_rfl | rfl)
    (case fc44 => first | k_is | kernel_rfl | rfl)
    (case fk44 => first | k_is | kernel_rfl | rfl)
    (case fa45 => first | k_is | kernel_rfl | rfl)
    (case fl45 => first | k_is | kernel_rfl | rfl)
    (case fc45 => first | k_is | kernel_rfl | rfl)
    (case fk45 => first | k_is | kernel_rfl | rfl)
    (case fa46 => first | k_is | kernel_rfl | rfl)
    (case fl46 => first | k_is | kernel_rfl | rfl)
    (case fc46 => first | k_is | kernel_rfl | rfl)
    (case fk46 => first | k_is | kernel_rfl | rfl)
    (case fa47 => first | k_is | kernel_rfl | rfl)
    (case fl47 => first | k_is | kernel_rfl | rfl)
    (case fc47 => first | k_is | kernel_rfl | rfl)
    (case fk47 => first | k_is | kernel_rfl | rfl)
    (case fa48 => first | k_is | kernel_rfl | rfl)
    (case fl48 => first | k_is | kernel_rfl | rfl)
    (case fc48 => first | k_is | kernel_rfl | rfl)
    (case fk48 => first | k_is | kernel_rfl | rfl)
    (case fa49 => first | k_is | kernel_rfl | rfl)
    (case fl49 => first | k_is | kernel_rfl | rfl)
    (case fc49 => first | k_is | kernel_rfl | rfl)
    (case fk49 => first | k_is | kernel_rfl | rfl)
    (case fa50 => first | k_is | kernel_rfl | rfl)
    (case fl50 => first | k_is | kernel_rfl | rfl)
    (case fc50 => first | k_is | kernel_rfl | rfl)
    (case fk50 => first | k_is | kernel_rfl | rfl)
    (case fa51 => first | k_is | kernel_rfl | rfl)
    (case fl51 => first | k_is | kernel_rfl | rfl)
    (case fc51 => first | k_is | kernel_rfl | rfl)
    (case fk51 => first | k_is | kernel_rfl | rfl)
    (case fa52 => first | k_is | kernel_rfl | rfl)
    (case fl52 => first | k_is | kernel_rfl | rfl)
    (case fc52 => first | k_is | kernel_rfl | rfl)
    (case fk52 => first | k_is | kernel_rfl | rfl)
    (case fa53 => first | k_is | kernel_rfl | rfl)
    (case fl53 => first | k_is | kernel_rfl | rfl)
    (case fc53 => first | k_is | kernel_rfl | rfl)
    (case fk53 => first | k_is | kernel_rfl | rfl)
    (case fa54 => first | k_is | kernel_rfl | rfl)
    (case fl54 => first | k_is | kernel_rfl | rfl)
    (case fc54 => first | k_is | kernel_rfl | rfl)
    (case fk54 => first | k_is | kernel_rfl | rfl)
    (case fa55 => first | k_is | kernel_rfl | rfl)
    (case fl55 => first | k_is | kernel_rfl | rfl)
    (case fc55 => first | k_is | kernel_rfl | rfl)
    (case fk55 => first | k_is | kernel_rfl | rfl)
    (case fa56 => first | k_is | kernel_rfl | rfl)
    (case fl56 => first | k_is | kernel_rfl | rfl)
    (case fc56 => first | k_is | kernel_rfl | rfl)
    (case fk56 => first | k_is | kernel_rfl | rfl)
    (case fa57 => first | k_is | kernel_rfl | rfl)
    (case fl57 => first | k_is | kernel_rfl | rfl)
    (case fc57 => first | k_is | kernel_rfl | rfl)
    (case fk57 => first | k_is | kernel_rfl | rfl)
    (case fa58 => first | k_is | kernel_rfl | rfl)
    (case fl58 => first | k_is | kernel_rfl | rfl)
    (case fc58 => first | k_is | kernel_rfl | rfl)
    (case fk58 => first | k_is | kernel_rfl | rfl)
    (case fa59 => first | k_is | kernel_rfl | rfl)
    (case fl59 => first | k_is | kernel_rfl | rfl)
    (case fc59 => first | k_is | kernel_rfl | rfl)
    (case fk59 => first | k_is | kernel_rfl | rfl)

