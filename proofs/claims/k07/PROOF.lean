import PyProof.Rows.All
import Wide.All
import OpenK.AllK
import Wide.FinOn
import HandS.ForMost
import HandS.ForExc
import HandS.Wide
import HandS.IsInst
import HandS.Deep
import HandS.Strs
import HandS.TupAny
import HandS.Walk
import KE.GoesNew
import KE.KUnpackStar
import HandS.ExcValue
import HandS.ExcField
import HandS.RaiseMore
import KE.KOpsOwn
import HandS.TupLe
import HandS.TupMul
import HandS.Dict
import HandS.TryMany
import KE.KExcSuper
import KE.KSuper
import HandS.Text
import HandS.Style
import HandS.More
import KE.KDictKeyed
import KE.KeyNested
import PyProof.ReprLen
import HandS.FStr
import HandS.Conv
import PyProof.InstNe
import PyProof.EqKinds
import PyProof.NeKinds
import PySem.Challenge.RW_lettersdesk_k07_equal_books
import HandS.DictComp
import KE.DataCmp
set_option Elab.async false
set_option linter.all false
set_option maxRecDepth 100000
set_option maxHeartbeats 2000000
/-! Lib, part A: a def of the text with its promise in one word; rules for what stands at names, wide numbers, unions of rules. -/
namespace Ld
open PySem PySem.Spec PyProof.Rows L2

/-! ### a def, a method, a class, each with its promise -/
/-- the function that stands there -/
def LkF (K : PySem.W.Frag) (f : Addr) (fd : FuncData) : Prop := ∃ oc od osl, K.lookup f = some ⟨oc, od, .func fd, osl⟩
theorem LkF.inj {K : PySem.W.Frag} {f : Addr} {fd fd' : FuncData} (h : LkF K f fd) (h' : LkF K f fd') : fd = fd' := by
  obtain ⟨oc, od, osl, e⟩ := h
  obtain ⟨oc', od', osl', e'⟩ := h'
  rw [e] at e'
  injection e' with e'
  injection e' with _ _ e' _
  injection e'
structure FnAt (K : PySem.W.Frag) (mg : Str → Option Value) (x : Str) (st : Stmt) (ps : List Str) : Prop where
  ex : ∃ f fd, mg x = some (.ref f) ∧ Fun K x x st f fd ∧ Binds K fd ps []
structure DefOk (P : Program) (w : World) (K : PySem.W.Frag) (mg : Str → Option Value) (base : Heap) (x : Str) (ps : List Str) (k : Nat) (sp : Sp) : Prop where
  ex : ∃ f fd, mg x = some (.ref f) ∧ PySem.W.keepIn K (.ref f) = true ∧ Binds K fd ps [] ∧ FnOk P w K mg base (L2.CX P w) k f fd ps sp ∧ LkF K f fd
structure MethAt (K : PySem.W.Frag) (C : Addr) (m qual : Str) (st : Stmt) (ps : List Str) : Prop where
  ex : ∃ f fd, Meth K C m f ∧ Fun K m qual st f fd ∧ Binds K fd ps []
structure MethOk (P : Program) (w : World) (K : PySem.W.Frag) (mg : Str → Option Value) (base : Heap) (C : Addr) (m : Str) (ps : List Str) (k : Nat) (sp : Sp) : Prop where
  cls : Cls K C
  ex : ∃ f fd, Meth K C m f ∧ Binds K fd ps [] ∧ FnOk P w K mg base (L2.CX P w) k f fd ps sp ∧ LkF K f fd
structure InitAt (K : PySem.W.Frag) (mg : Str → Option Value) (C : Addr) (x qual : Str) (st : Stmt) (ps : List Str) : Prop where
  cls : Cls K C
  glob : mg x = some (.ref C)
  ex : ∃ f fd, Mk K C f ∧ Fun K "__init__" qual st f fd ∧ Binds K fd ps []
structure MakeOk (P : Program) (w : World) (K : PySem.W.Frag) (mg : Str → Option Value) (base : Heap) (C : Addr) (x : Str) (ps : List Str) (k : Nat) (sp : Sp) : Prop where
  glob : mg x = some (.ref C)
  ex : ∃ f fd, Mk K C f ∧ Binds K fd ps [] ∧ FnOk P w K mg base (L2.CX P w) k f fd ps sp ∧ LkF K f fd

section
variable {P : Program} {w : World} {K : PySem.W.Frag} {mg : Str → Option Value} {base : Heap} {x qual : Str} {st : Stmt} {N ps : List Str} {k : Nat} {sp : Sp} {C : Addr}
/-- what a body's derivation and reading must give -/
def Body (P : Program) (w : World) (K : PySem.W.Frag) (mg : Str → Option Value) (base : Heap) (qual : Str) (st : Stmt) (N : List Str) (k : Nat) (sp : Sp) : Prop :=
  ∀ (f : Addr) (cdv : Value) (A : Around) (outer : List Env) (s : Shared) (H : Hp) (vs : List V) (Q : VK) (E : XK), Room k (A.deeper (envOfC qual (defScope st) s.heap.objs.size f cdv)) → sp vs H Q E →
    ∃ t, PSs (cxOf (L2.CX P w) P w K mg base N qual (defScope st) f cdv A outer s H E) (defBody st) t ∧ t { nx := fun _ H' => Q .non H', rt := Q } (start N vs) H
theorem _root_.L2.Fun.lkF {f : Addr} {fd : FuncData} (F : Fun K x qual st f fd) : LkF K f fd := by
  obtain ⟨oc, od, kV, doc, pm, an, cdv, ct, osl, e, l, _⟩ := F.ex
  exact ⟨oc, od, osl, l⟩
theorem FnAt.ok (F : FnAt K mg x st ps) (S : FnScope N ps (defScope st)) (len : ∀ vs H Q E, sp vs H Q E → vs.length = ps.length) (b : Body P w K mg base x st N k sp) : DefOk P w K mg base x ps (k + 1) sp := by
  obtain ⟨f, fd, hm, hf, hb⟩ := F.ex
  exact ⟨f, fd, hm, hf.kp, hb, hf.okX S len fun cdv A outer s H vs Q E hr h => b f cdv A outer s H vs Q E hr h, hf.lkF⟩
theorem MethAt.ok {m : Str} (F : MethAt K C m qual st ps) (c : Cls K C) (S : FnScope N ps (defScope st)) (len : ∀ vs H Q E, sp vs H Q E → vs.length = ps.length) (b : Body P w K mg base qual st N k sp) : MethOk P w K mg base C m ps (k + 1) sp := by
  obtain ⟨f, fd, hm, hf, hb⟩ := F.ex
  exact ⟨c, f, fd, hm, hb, hf.okX S len fun cdv A outer s H vs Q E hr h => b f cdv A outer s H vs Q E hr h, hf.lkF⟩
theorem InitAt.ok (F : InitAt K mg C x qual st ps) (S : FnScope N ps (defScope st)) (len : ∀ vs H Q E, sp vs H Q E → vs.length = ps.length) (b : Body P w K mg base qual st N k sp) : MakeOk P w K mg base C x ps (k + 1) sp := by
  obtain ⟨f, fd, hm, hf, hb⟩ := F.ex
  exact ⟨F.glob, f, fd, hm, hb, hf.okX S len fun cdv A outer s H vs Q E hr h => b f cdv A outer s H vs Q E hr h, hf.lkF⟩
theorem DefOk.mono {j : Nat} (D : DefOk P w K mg base x ps j sp) (h : j ≤ k) : DefOk P w K mg base x ps k sp := by
  obtain ⟨f, fd, a, b, c, d, l⟩ := D.ex
  exact ⟨f, fd, a, b, c, d.mono h, l⟩
theorem DefOk.imp {sp' : Sp} (D : DefOk P w K mg base x ps k sp) (h : ∀ vs H Q E, sp' vs H Q E → sp vs H Q E) : DefOk P w K mg base x ps k sp' := by
  obtain ⟨f, fd, a, b, c, d, l⟩ := D.ex
  exact ⟨f, fd, a, b, c, d.imp h, l⟩
theorem MethOk.mono {j : Nat} {m : Str} (D : MethOk P w K mg base C m ps j sp) (h : j ≤ k) : MethOk P w K mg base C m ps k sp := by
  obtain ⟨c, f, fd, a, b, d, l⟩ := D
  exact ⟨c, f, fd, a, b, d.mono h, l⟩
theorem MakeOk.mono {j : Nat} (D : MakeOk P w K mg base C x ps j sp) (h : j ≤ k) : MakeOk P w K mg base C x ps k sp := by
  obtain ⟨g, f, fd, a, b, d, l⟩ := D
  exact ⟨g, f, fd, a, b, d.mono h, l⟩
end
section
variable {X : Cx} {x m : Str} {ps : List Str} {k : Nat} {sp : Sp} {E : XK} {C : Addr} {p pos apos : Pos} {e o : Expr} {es : List Expr} {t : TA} {ta : TE}
theorem pe_callD (D : DefOk X.prog X.w X.K X.mg X.base x ps k sp) {n : Nat} (hr : Room n X.A) (hg : Gl X x) (hx : Passes (L2.CX X.prog X.w) X E) (ha : PA X (e :: es) t) (hk : k ≤ n := by omega)
    (hdb : (x == ("__debug__" : Str)) = false := by decide) (he : starEach (e :: es) X.env = (false, eval e X.env) :: starEach es X.env := by rfl) (hpl : (backTo pos (starEach es X.env)).any (·.1) = false := by rfl) :
    PE X (.Call (.Name x p) (e :: es) [] pos) (tCall sp [] E t) := by
  obtain ⟨f, fd, hm, kp, hb, F, _⟩ := D.ex
  exact pe_call F (hr.mono hk) hg hm kp hb .nil hx ha hdb he hpl
theorem pe_methD {pl : Sem Bool} (D : MethOk X.prog X.w X.K X.mg X.base C m ps k sp) {n : Nat} (hr : Room n X.A) (he : PE X o ta) (hx : Passes (L2.CX X.prog X.w) X E) (ha : PA X (e :: es) t) (hk : k ≤ n := by omega)
    (hst : starEach (e :: es) X.env = (false, eval e X.env) :: starEach es X.env := by rfl) (hpl : (backTo pos (starEach es X.env)).any (·.1) = false := by rfl)
    (ht : eval (.Call (.Attribute o m apos) (e :: es) [] pos) X.env = (do
      let ov ← eval o X.env
      standAt apos.atName
      let (f, first) ← holding [ov] (getMethod ov m pl)
      callWith pos f first (backTo pos (starEach (e :: es) X.env)) (backToKw pos (keywordEach [] X.env))) := by rfl) :
    PE X (.Call (.Attribute o m apos) (e :: es) [] pos) (tMeth C m sp [] E ta t) := by
  obtain ⟨c, f, fd, hm, hb, F, _⟩ := D
  exact pe_meth he c hm F (hr.mono hk) hb .nil hx ha hst hpl ht
theorem pe_methD0 {pl : Sem Bool} (D : MethOk X.prog X.w X.K X.mg X.base C m ps k sp) {n : Nat} (hr : Room n X.A) (he : PE X o ta) (hx : Passes (L2.CX X.prog X.w) X E) (hk : k ≤ n := by omega)
    (ht : eval (.Call (.Attribute o m apos) [] [] pos) X.env = (do
      let ov ← eval o X.env
      standAt apos.atName
      let (f, first) ← holding [ov] (getMethod ov m pl)
      callWith pos f first (backTo pos (starEach [] X.env)) (backToKw pos (keywordEach [] X.env))) := by rfl) :
    PE X (.Call (.Attribute o m apos) [] [] pos) (tMeth C m sp [] E ta tNil) := by
  obtain ⟨c, f, fd, hm, hb, F, _⟩ := D
  exact pe_meth0 he c hm F (hr.mono hk) hb .nil hx ht
theorem pe_makeD (D : MakeOk X.prog X.w X.K X.mg X.base C x ps k sp) {n : Nat} (hr : Room n X.A) (hg : Gl X x) (hx : Passes (L2.CX X.prog X.w) X E) (ha : PA X (e :: es) t) (hk : k + 1 ≤ n := by omega)
    (hdb : (x == ("__debug__" : Str)) = false := by decide) (he : starEach (e :: es) X.env = (false, eval e X.env) :: starEach es X.env := by rfl) (hpl : (backTo pos (starEach es X.env)).any (·.1) = false := by rfl) :
    PE X (.Call (.Name x p) (e :: es) [] pos) (tMake C sp [] E t) := by
  obtain ⟨hm, f, fd, M, hb, F, _⟩ := D
  exact pe_make M F (hr.mono hk) hg hm hb .nil hx ha hdb he hpl
/-- a module's constant -/
theorem pe_globE {v : V} (hg : Gl X x) (h : ∃ u, X.mg x = some u ∧ RelV v u) (hd : (x == ("__debug__" : Str)) = false := by decide) : PE X (.Name x pos) (tC v) := by
  obtain ⟨u, hm, r⟩ := h
  exact pe_glob hg hm r hd
/-- a built-in class as a value -/
theorem pe_ty {n : String} (hm : X.mg x = none) (hg : Gl X x := by rfl) (hv : bootBuiltins x = some (.type n) := by decide +kernel) (hn : x ≠ "__name__" := by decide) (hd : (x == ("__debug__" : Str)) = false := by decide) : PE X (.Name x pos) (tC (.ty n)) :=
  pe_bltn hg hm hv rfl hn hd
end

/-! ### operators on whatever stands there -/
section
variable {X : Cx}
def rAddS : R2 := fun x y H Q => ∃ i j, x = .str i ∧ y = .str j ∧ i.length + j.length ≤ sizeLine ∧ Q (.str (i ++ j)) H
theorem uAdd : OpR X (binaryOp .Add) (fun x y H Q => rI0 (fun i j => .int (i + j)) x y H Q ∨ rCat x y H Q ∨ rCatA X.K x y H Q) := op_add.or (op_cat.or op_catA)
theorem uMul : OpR X (binaryOp .Mult) (fun x y H Q => rI CMulW (fun i j => .int (i * j)) x y H Q ∨ rRep x y H Q) := op_mulW.or op_rep
def CPowW (i j : Int) : Prop := 0 ≤ j ∧ (Builtin.Int.intBits i : Int) * j ≤ 2 ^ 27
theorem uPow : OpR X (binaryOp .Pow) (rI CPowW fun i j => .int (i ^ j.toNat)) := opI fun _ _ _ _ _ _ _ hc q => pow_int hc.1 hc.2 q
theorem uEq (hu : X.A.units + 64 < cLine) : OpR X (compareOp .Eq) (fun x y H Q => rEq x y H Q ∨ rEqD X.K x y H Q) := op_eq.or (op_eqD hu)
theorem uNe (hu : X.A.units + 64 < cLine) : OpR X (compareOp .NotEq) (fun x y H Q => rNe x y H Q ∨ rNeD X.K x y H Q) := op_ne.or (op_neD hu)
theorem uIn : OpR X (compareOp .In) (fun x y H Q => rIn X.K false x y H Q ∨ (∃ (c : Nat) (z : Str), x = .str ⟨#[c]⟩ ∧ y = .str z ∧ Q (.bl (decide (c ∈ z.cps.toList))) H)) := op_in_seq.or op_in_sign
theorem uNotIn : OpR X (compareOp .NotIn) (rIn X.K true) := op_notIn_seq
end
end Ld

set_option Elab.async false
set_option linter.all false
set_option maxRecDepth 100000
set_option maxHeartbeats 2000000
/-! Lib, part B: what the layer lacks: enumerate over a tuple, zip of a tuple and a list, a target with a star, a field as a target, slices of all kinds. -/
namespace Ld
open PySem PySem.Spec PyProof.Rows L2

/-! ### enumerate(t), t a tuple -/
def ItEt (K : PySem.W.Frag) (a : Addr) : It where
  go := fun i H => ∃ (xs : List V) (x : V), SqT K H a xs ∧ xs[i]? = some x
  yld := fun i H v H' => ∃ T x, v = .ref T ∧ H T = none ∧ H' = upd H T (.tup [.int (i : Nat), x]) ∧ ∀ xs, SqT K H a xs → xs[i]? = some x
  stop := fun i H => ∃ xs : List V, SqT K H a xs ∧ xs.length = i
theorem turnEt {P : Program} {w : World} {K : PySem.W.Frag} {elts : List Expr} {kk : Nat} {tpos : Pos} (a e it : Addr) (hea : e ≠ a) (hia : a ≠ it) :
    Turn P w K (.Tuple elts kk tpos) (ItEt K a) [e, it] e (fun i h => (∃ old, IsEnum h e it (i : Int) old) ∧ h.IsTupleIter it a i ∧ e ≠ it) where
  mem := List.mem_cons_self
  obj := fun i h st b hb => by
    obtain ⟨⟨old, h1⟩, ⟨o, h2, _, h3⟩, _⟩ := st
    rcases List.mem_cons.mp hb with z | hb
    · subst z
      exact ⟨_, h1, fun v q => nomatch q⟩
    · have z := List.mem_singleton.mp hb
      subst z
      exact ⟨o, h2, fun v q => by rw [h3] at q; cases q⟩
  keep := fun i h h' ⟨⟨old, h1⟩, h2, h3⟩ kp => ⟨⟨old, kp e List.mem_cons_self _ h1⟩, h2.at fun o q => kp it (List.mem_cons_of_mem _ List.mem_cons_self) o q, h3⟩
  item := by
    intro X eP ew eK hc i pins s σ H E I hf st hg
    subst eP ew eK
    obtain ⟨⟨old, h1⟩, h2, h3⟩ := st
    obtain ⟨xs, x, hq, hx⟩ := hg
    obtain ⟨its, rv, tp, hz⟩ := I.tuple hq
    obtain ⟨u, hu, ru⟩ := rv.get hx
    have le : e < s.heap.objs.size := Heap.lt_size h1
    have li : it < s.heap.objs.size := by obtain ⟨_, q, _⟩ := h2; exact Heap.lt_size q
    have hlt : i < its.toArray.size := by
      have := (List.getElem?_eq_some_iff.mp hu).1
      simpa using this
    have D := Draws.tuple (prog := X.prog) (w := X.w) (A := X.A.in1) (show X.A.in1.handled = none from I.ok.hd hc) it a hia its.toArray
    refine wpAny_pyNext_enum_itemC D h1 ⟨h2, tp⟩ hlt h3 (by simp [h3, hea]) fun y h' tk hy ho hs' hT hsz kp => ?_
    have ey : y = u := by
      have q : its[i]? = some y := by simpa using hy
      exact Option.some.inj (q.symm.trans hu)
    subst ey
    refine ⟨_, rfl, wpAny_letOwnedTupleGo_enum (s := { s with heap := h', toks := tk + 1 }) ho fun h'' he' sb => ?_⟩
    have hT2 : h''.get? s.heap.objs.size = some { cls := .type "tuple", data := .seq #[.int i tk, y] } := (sb.2 _ (Nat.ne_of_gt le)).trans hT
    have new : ObjOk X.prog X.w (upd H s.heap.objs.size (.tup [.int (i : Nat), x])) h'' s.heap.objs.size (.tup [.int (i : Nat), x]) :=
      ⟨(show 2 ≤ sizeLine by decide), [.int i tk, y], Paired.cons ⟨_, rfl⟩ (Paired.cons ru .nil), ⟨_, hT2, rfl, _, rfl⟩⟩
    have I1 := I.turnedNew (t' := tk + 1) (ch := [e, it]) (h' := h'') (fun b o hb q => (sb.2 b (fun z => hb (z ▸ List.mem_cons_self))).trans (kp b o (fun z => hb (z ▸ List.mem_cons_self)) (fun z => hb (z ▸ List.mem_cons_of_mem _ List.mem_cons_self)) q)) hf (Nat.le_refl _) new
    refine ⟨.ref s.heap.objs.size, _, I1, rfl, ⟨_, x, rfl, I.hok.fresh (Nat.le_refl _), rfl, fun ys hy' => (I.tuple_inj hy' hq) ▸ hx⟩, ⟨⟨y, ?_⟩, hs'.1.at fun o q => (sb.2 it (Ne.symm h3)).trans q, h3⟩, fun b hb => ?_⟩
    · have e1 : ((i + 1 : Nat) : Int) = (i : Int) + 1 := by omega
      rw [e1]
      exact he'
    · have lb : b < s.heap.objs.size := by
        rcases List.mem_cons.mp hb with z | hb
        · exact z ▸ le
        · exact (List.mem_singleton.mp hb) ▸ li
      rw [upd_ne (Nat.ne_of_lt lb)]
      exact (hf b hb).1
  done := by
    intro X eP ew eK hc i pins s σ H E I hf st hg
    subst eP ew eK
    obtain ⟨⟨old, h1⟩, h2, h3⟩ := st
    obtain ⟨xs, hq, hx⟩ := hg
    obtain ⟨its, rv, tp, hz⟩ := I.tuple hq
    have hl : its.toArray.size = i := by rw [← hx, List.size_toArray]; exact rv.length.symm
    subst hl
    have D := Draws.tuple (prog := X.prog) (w := X.w) (A := X.A.in1) (show X.A.in1.handled = none from I.ok.hd hc) it a hia its.toArray
    obtain ⟨f0, f1, f2, f3, f4, f5⟩ := hf it (List.mem_cons_of_mem _ List.mem_cons_self)
    exact wpAny_pyNext_enum_endD D h1 ⟨h2, tp⟩ fun h' eb => ⟨rfl, I.turned (t' := s.toks) (fun b o hb q => eb b o hb q) f0 f1 f3 f4 f5⟩
  self := fun A i s Q E st h => by
    obtain ⟨⟨old, h1⟩, _⟩ := st
    exact wpAny_pyIter_enum h1 h

section
variable {prog : Program} {w : World} {A : Around} {E : Value → Shared → Prop} {s : Shared}
set_option maxHeartbeats 1000000 in
/-- enumerate(t)'s making -/
theorem meets_enumT (a : Addr) (items : Array Value) :
    Meets (Builtin.«enumerate.__new__» ⟨[.type "enumerate", .ref a], []⟩) (fun _ R s => s.heap.IsTuple a items ∧
      R (.ok (.ret (.ref (s.heap.push { cls := .type "tuple_iterator", data := .fields #[.ref a, .int 0 0] }).objs.size)))
        { s with heap := (s.heap.push { cls := .type "tuple_iterator", data := .fields #[.ref a, .int 0 0] }).push { cls := .type "enumerate", data := .fields #[.none, .bool false, .ref s.heap.objs.size, rawInt 0, .none, .none] } }) :=
  .of_wp fun prog w A R s ht => by
    obtain ⟨hh, gg, dd, tt, oo⟩ := s
    obtain ⟨h1, h2⟩ := ht
    have sub := sub_enumerate
    obtain ⟨⟨oc, odc, odt, osl⟩, hl, hc, n, hd⟩ := id h1
    have go : ∀ {A' : Around} {E : Value → Shared → Prop} {Q : Value → Shared → Prop}, Q (.ref hh.objs.size) ⟨hh.push { cls := .type "tuple_iterator", data := .fields #[.ref a, .int 0 0] }, gg, dd, tt, oo⟩ → wpAny (model prog w) A' (pyIter (.ref a)) Q E ⟨hh, gg, dd, tt, oo⟩ :=
      fun q => wpAny_pyIter_tuple (s := ⟨hh, gg, dd, tt, oo⟩) h1 q
    wp_walk using go, AutoSeq1.wpAny_loadPart' hl
    refine wpAny_stack_any fun st => wpAny_pure ?_
    split
    · rename_i c _ _ _ _ _
      cases (c == Value.type "enumerate") <;> (wp_walk using go, AutoSeq1.wpAny_loadPart' hl; exact ⟨_, rfl, h2⟩)
    · wp_walk using go, AutoSeq1.wpAny_loadPart' hl
      exact ⟨_, rfl, h2⟩
theorem call_enumT {a : Addr} {items : Array Value} {Q : Value → Shared → Prop} (ht : s.heap.IsTuple a items)
    (h : ∀ h', IsEnum h' (s.heap.objs.size + 1) s.heap.objs.size 0 .none → h'.IsTupleIter s.heap.objs.size a 0 → (∀ b o, s.heap.get? b = some o → h'.get? b = some o) → Q (.ref (s.heap.objs.size + 1)) { s with heap := h' }) :
    wpAny (model prog w) A (call (.type "enumerate") [.ref a]) Q E s := by
  refine callType_new F.called_enumerate (by decide) (F.typeCall_enumerate_1 _) (F.newCall_enumerate_1 _) (fun ob => F.args_object_init_2 ob _) F.entry_enumerate_new (meets_enumT a items) ⟨ht, ?_⟩
  have hz : (s.heap.push { cls := .type "tuple_iterator", data := .fields #[.ref a, .int 0 0] }).objs.size = s.heap.objs.size + 1 := Heap.size_push ..
  have he := Heap.get?_push_size (s.heap.push { cls := .type "tuple_iterator", data := .fields #[.ref a, .int 0 0] }) (o := { cls := .type "enumerate", data := .fields #[.none, .bool false, .ref s.heap.objs.size, rawInt 0, .none, .none] }) rfl
  rw [hz] at he
  show _ ∧ _
  rw [hz]
  exact ⟨⟨_, he, rfl⟩, h _ he ⟨_, Heap.get?_push_of_some _ (Heap.get?_push_size _ rfl), rfl, rfl⟩ fun b o x => Heap.get?_push_of_some _ (Heap.get?_push_of_some _ x)⟩
end
def iEnumT (K : PySem.W.Frag) (ta : TA) : TI := fun σ H R => ta σ H fun vs H1 => ∃ a xs, vs = [.ref a] ∧ SqT K H1 a xs ∧ R (ItEt K a) H1
theorem PI.or {X : Cx} {tg it : Expr} {w1 w2 : TI} (h1 : PI X tg it w1) (h2 : PI X tg it w2) : PI X tg it (fun σ H R => w1 σ H R ∨ w2 σ H R) :=
  ⟨fun pins s σ H R I h => h.elim (fun q => h1.run pins s σ H R I q) fun q => h2.run pins s σ H R I q⟩
section
variable {X : Cx} {e : Expr} {ta : TA} {p pos tpos : Pos} {elts : List Expr} {kk : Nat}
theorem pi_enumT (hg : Gl X "enumerate") (hm : X.mg "enumerate" = none) (ha : PA X [e] ta) (hs : starEach [e] X.env = [(false, eval e X.env)] := by rfl) :
    PI X (.Tuple elts kk tpos) (.Call (.Name "enumerate" p) [e] [] pos) (iEnumT X.K ta) := by
  refine ⟨fun pins s σ H R I hw => Call_ (ld_blt I hg hm boot_enumerate (PyProof.Rows.callWith_type1 (thn (ha.run pos pins s σ H _ I hw) fun us s1 hu => ?_) hs rfl))⟩
  obtain ⟨vs, H1, I1, r1, a, xs, rfl, hq, q⟩ := hu
  obtain ⟨u, rfl, ru⟩ := vals1 r1
  cases (show u = Value.ref a from ru)
  obtain ⟨its, rv, tp, hz⟩ := I1.tuple hq
  have la : a < s1.heap.objs.size := tp.lt
  refine call_enumT (show s1.heap.IsTuple a its.toArray from tp) fun h' he hit hk => wpAny_pyIter_enum he ?_
  have n1 : s1.heap.objs.size + 1 ≠ a := fun z => absurd la (by rw [← z]; exact Nat.not_lt.mpr (Nat.le_succ _))
  have n2 : a ≠ s1.heap.objs.size := Nat.ne_of_lt la
  refine ⟨s1.heap.objs.size + 1, [s1.heap.objs.size + 1, s1.heap.objs.size], _, _, H1, rfl, I1.kept (t' := s1.toks) hk, turnEt a (s1.heap.objs.size + 1) s1.heap.objs.size n1 n2, ⟨⟨.none, he⟩, hit, Nat.succ_ne_self _⟩, fun b hb => ?_, q⟩
  have hle : s1.heap.objs.size ≤ b := by
    rcases List.mem_cons.mp hb with z | hb
    · rw [z]
      exact Nat.le_succ _
    · rw [List.mem_singleton.mp hb]
      exact Nat.le_refl _
  exact I1.fpOk hle (I1.hok.fresh hle)
/-- enumerate of a list or of a tuple -/
theorem uEnum (hg : Gl X "enumerate") (hm : X.mg "enumerate" = none) (ha : PA X [e] ta) (hs : starEach [e] X.env = [(false, eval e X.env)] := by rfl) :
    PI X (.Tuple elts kk tpos) (.Call (.Name "enumerate" p) [e] [] pos) (fun σ H R => iEnum X.K ta σ H R ∨ iEnumT X.K ta σ H R) := PI.or (pi_enum hg hm ha hs) (pi_enumT hg hm ha hs)
/-- whatever is walked by itself: a list, a tuple, a text -/
theorem uSeq {tg l : Expr} {tl : TE} (hl : PE X l tl) : PI X tg l (fun σ H R => iList X.K tl σ H R ∨ iTup X.K tl σ H R ∨ iStr tl σ H R) := PI.or (pi_list hl) (PI.or (pi_tup hl) (pi_str hl))
end

/-! ### a, *b = t -/
section
variable {prog : Program} {w : World} {A : Around} {E : Value → Shared → Prop} {s : Shared}
theorem unpack_star {a : Addr} {x : Value} {xs : List Value} {Q : List Value → Shared → Prop} (ht : IsTup s.heap a (x :: xs).toArray) (hh : A.handled = none) (hz : (x :: xs).length ≤ 1000)
    (h : ∀ D h' tk, s.heap.get? D = none → h'.get? D = some { cls := .type "list", data := .seq xs.toArray } → (∀ b o, s.heap.get? b = some o → h'.get? b = some o) → Q [x, .ref D] { s with heap := h', toks := tk }) :
    wpAny (model prog w) A (unpackItems (.ref a) 2 (some 1)) Q E s := by
  have la : a < s.heap.objs.size := ht.lt
  have na : a ≠ s.heap.objs.size := Nat.ne_of_lt la
  have sz : (x :: xs).toArray.size = xs.length + 1 := by simp
  have hz' : xs.length + 1 ≤ 1000 := by simpa using hz
  have line : 1000 ≤ sizeLine := by decide
  unfold unpackItems notIterableAtAll
  refine wpAny_bind (wpAny_bind (wpAny_specialOf ht.typeIs PyProof.Rows.slot_tuple_iter.lookup (wpAny_pure ?_)))
  simp only [Bool.false_eq_true, if_false]
  refine wpAny_bind (wpAny_holding (iter_tuple ht (wpAny_bind (wpAny_holding (draw_tuple na 1 0 _ _ ⟨_, Heap.get?_push_size _ rfl, rfl, rfl⟩ (ht.push _) (by omega) fun h1 i1 b1 => ?_)))))
  have t1 : IsTup h1 a (x :: xs).toArray := (ht.push _).extBut b1.extBut na
  have k1 : ∀ b o, s.heap.get? b = some o → h1.get? b = some o := fun b o e => b1.extBut b o (Nat.ne_of_lt (Heap.lt_size e)) (Heap.get?_push_of_some _ e)
  have i2 := i1
  obtain ⟨o1, g1, _⟩ := i2
  have l1 : a < h1.objs.size := t1.lt
  refine wpAny_bind (wpAny_holding (PySem.W.kun_collect (s := { s with heap := h1 }) (T := "tuple_iterator") (.inr (.inr (.inr rfl))) (Walks.tuple (A := A.in1) hh s.heap.objs.size a na (x :: xs).toArray) (fun j u st => st.1.typeIs) (k := 1) (by omega) ⟨i1, t1⟩ (Heap.lt_size g1) l1 (fun h2 tk k2 => ?_) (by omega)))
  show wpAny _ _ (if _ then _ else _) _ _ _
  rw [if_neg (by simp)]
  have e0 : ((x :: xs).toArray.toList.drop 1) = xs := rfl
  have e1 : (xs.take (xs.length - (2 - 1 - 1))) = xs := by simp
  have e2 : (xs.drop (xs.length - (2 - 1 - 1))) = [] := by simp
  show wpAny _ _ (newList (((x :: xs).toArray.toList.drop 1).take (((x :: xs).toArray.toList.drop 1).length - (2 - 1 - 1))) >>= fun d => pure ([x] ++ [d] ++ ((x :: xs).toArray.toList.drop 1).drop (((x :: xs).toArray.toList.drop 1).length - (2 - 1 - 1)))) _ _ _
  rw [e0, e1, e2]
  have kk : ∀ b o, s.heap.get? b = some o → h2.get? b = some o := fun b o e => k2 b o (Nat.ne_of_lt (Heap.lt_size e)) (k1 b o e)
  have new : s.heap.get? h2.objs.size = none := by
    cases q : s.heap.get? h2.objs.size with
    | none => rfl
    | some o => exact absurd (Heap.lt_size (kk _ _ q)) (Nat.lt_irrefl _)
  exact wpAny_bind (wpAny_newList (wpAny_pure (h _ _ tk new (Heap.get?_push_size _ rfl) fun b o e => Heap.get?_push_of_some _ (kk b o e))) (by omega))
end

/-- (a, *b) = a tuple with an item at least: the rest in a new list -/
def gStar2 (K : PySem.W.Frag) (ga gb : TG) : TG := fun v σ H Q => ∃ t x xs, v = .ref t ∧ SqT K H t (x :: xs) ∧ (x :: xs).length ≤ 1000 ∧
  ∀ D, H D = none → ga x σ (upd H D (.lst xs)) fun σ1 H1 => gb (.ref D) σ1 H1 Q
section
variable {X : Cx}
theorem pg_star2 {e1 e2 : Expr} {ga gb : TG} {k : Nat} {pos sp : Pos} (hc : X.calm = true) (ha : PG X e1 ga) (hb : PG X e2 gb)
    (he : assignEach [e1, .Starred e2 sp] X.env = [(false, assign e1 X.env), (true, assign e2 X.env)] := by rfl) : PG X (.Tuple [e1, .Starred e2 sp] k pos) (gStar2 X.K ga gb) := by
  refine ⟨fun pins s σ H v u Q I r hw => ?_⟩
  obtain ⟨t, x, xs, rfl, hq, hz, hw⟩ := hw
  cases (show u = Value.ref t from r)
  obtain ⟨its, rv, tp, _⟩ := I.tuple hq
  cases rv with
  | @cons _ x' _ xs' rx rxs =>
    have ln : xs.length = xs'.length := rxs.length
    rw [PyProof.Rows.assign_Tuple]
    refine wpAny_bind (wpAny_standAt ?_)
    unfold unpack
    rw [he]
    refine wpAny_bind (wpAny_holding (unpack_star tp (I.ok.hd hc) (by simpa [ln] using hz) fun D h' tk new hD kp => ?_))
    have hn : H D = none := I.hok.gone new
    have ob : ObjOk X.prog X.w (upd H D (.lst xs)) h' D (.lst xs) := ⟨Nat.le_trans (Nat.le_trans (by simp) hz) (by decide), xs', _, rxs, hD⟩
    have I1 : Inv X pins σ (upd H D (.lst xs)) { s with heap := h', toks := tk } := I.laidN kp new hn ob
    show wpAny _ _ (assignInOrder [assign e1 X.env, assign e2 X.env] [x', .ref D]) _ _ _
    refine assignInOrder_cons (thn (ha.run pins _ σ _ x x' _ I1 rx (hw D hn)) fun _ s1 ⟨σ1, H1, I2, q⟩ => ?_)
    refine assignInOrder_cons (thn (hb.run pins s1 σ1 H1 (.ref D) (.ref D) _ I2 rfl q) fun _ s2 z => ?_)
    exact assignInOrder_nil z
/-- o.f = .. as a target -/
def gFld (K : PySem.W.Frag) (ta : TE) (f : Str) : TG := fun v σ H Q => ta σ H fun x H2 => ∃ a C dx fs, x = .ref a ∧ H2 a = some (.ins C dx fs) ∧ Cls K C ∧ NoAttr K C f ∧ fs.length < 1000 ∧ Q σ (upd H2 a (.ins C dx (putF f v fs)))
theorem pg_fld {o : Expr} {ta : TE} {f : Str} {pos : Pos} (ha : PE X o ta) : PG X (.Attribute o f pos) (gFld X.K ta f) := by
  refine ⟨fun pins s σ H v u Q I r hw => ?_⟩
  rw [PySem.assign_Attribute]
  refine wpAny_bind (wpAny_holding (thn (ha.run pins s σ H _ I hw) fun ov s1 ⟨x, H1, I1, rx, a, C, dx, fs, ex, ea, c, n, l, q⟩ => ?_))
  subst ex
  cases (show ov = Value.ref a from rx)
  refine wpAny_bind (wpAny_standAt (wpAny_bind (wpAny_holding (setattr_ok I1 ea c n l r fun s2 I2 => ?_))))
  exact wpAny_release ⟨σ, _, I2, q⟩
end

/-! ### slices of whatever stands there -/
theorem uSl {X : Cx} : SlR X (fun x lo hi H Q => rSlL X.K x lo hi H Q ∨ rSlA X.K x lo hi H Q ∨ rSlS x lo hi H Q) := sl_list.or (sl_tupA.or sl_str)

/-! ### zip of a tuple and a list -/
def ItZt (K : PySem.W.Frag) (a b : Addr) : It where
  go := fun i H => ∃ (xs ys : List V) (x y : V), SqT K H a xs ∧ SqL K H b ys ∧ xs[i]? = some x ∧ ys[i]? = some y
  yld := fun i H v H' => ∃ T x y, v = .ref T ∧ H T = none ∧ H' = upd H T (.tup [x, y]) ∧ (∀ xs, SqT K H a xs → xs[i]? = some x) ∧ ∀ ys, SqL K H b ys → ys[i]? = some y
  stop := fun i H => ∃ xs ys : List V, SqT K H a xs ∧ SqL K H b ys ∧ i ≤ xs.length ∧ i ≤ ys.length ∧ (i = xs.length ∨ i = ys.length)
theorem turnZt {P : Program} {w : World} {K : PySem.W.Frag} {elts : List Expr} {kk : Nat} {tpos : Pos} {a b z TI TO i1 i2 : Addr} (D : PySem.ZipSep2 z TI TO i1 i2 [i1, a] [i2, b]) :
    Turn P w K (.Tuple elts kk tpos) (ItZt K a b) [z, TI, TO, i1, i2] z (fun i h => PySem.IsZip h z TI TO .none ∧ PySem.IsTupOf2 h TI (.ref i1) (.ref i2) ∧ (∃ x y, PySem.IsTupOf2 h TO x y) ∧ h.IsTupleIter i1 a i ∧ h.IsListIter i2 b i) where
  mem := List.mem_cons_self
  obj := fun i h st c hc => by
    obtain ⟨h1, h2, ⟨x, y, h3⟩, ⟨o4, h4, _, d4⟩, ⟨o5, h5, _, d5⟩⟩ := st
    simp only [List.mem_cons, List.not_mem_nil, or_false] at hc
    rcases hc with q | q | q | q | q <;> subst q
    · exact ⟨_, h1, fun v q => nomatch q⟩
    · exact ⟨_, h2, fun v q => nomatch q⟩
    · exact ⟨_, h3, fun v q => nomatch q⟩
    · exact ⟨o4, h4, fun v q => by rw [d4] at q; cases q⟩
    · exact ⟨o5, h5, fun v q => by rw [d5] at q; cases q⟩
  keep := fun i h h' st kp => by
    obtain ⟨h1, h2, ⟨x, y, h3⟩, h4, h5⟩ := st
    exact ⟨kp z (by simp) _ h1, kp TI (by simp) _ h2, ⟨x, y, kp TO (by simp) _ h3⟩, h4.at fun o q => kp i1 (by simp) o q, h5.at fun o q => kp i2 (by simp) o q⟩
  item := by
    intro X eP ew eK hc i pins s σ H E I hf st hg
    subst eP ew eK
    obtain ⟨h1, h2, ⟨x0, y0, h3⟩, h4, h5⟩ := st
    obtain ⟨xs, ys, x, y, hqx, hqy, hx, hy⟩ := hg
    obtain ⟨its, rv, tp, _⟩ := I.tuple hqx
    obtain ⟨its2, rv2, lp, _⟩ := I.list hqy
    obtain ⟨u, hu, ru⟩ := rv.get hx
    obtain ⟨u2, hu2, ru2⟩ := rv2.get hy
    have lt1 : i < its.toArray.size := by
      have := (List.getElem?_eq_some_iff.mp hu).1
      simpa using this
    have lt2 : i < its2.toArray.size := by
      have := (List.getElem?_eq_some_iff.mp hu2).1
      simpa using this
    have na1 : a ≠ i1 := fun e => by
      obtain ⟨o, q1, q2, _⟩ := h4
      obtain ⟨o', q3, q4, _⟩ := tp
      rw [← e, q3] at q1
      cases q1
      rw [q4] at q2
      exact absurd q2 (by decide)
    have nb2 : b ≠ i2 := fun e => by
      obtain ⟨o, q1, q2, _⟩ := h5
      obtain ⟨o', q3, q4, _⟩ := lp.isList
      rw [← e, q3] at q1
      cases q1
      rw [q4] at q2
      exact absurd q2 (by decide)
    have D1 := PySem.Draws.tuple (prog := X.prog) (w := X.w) (A := X.A.in1) (show X.A.in1.handled = none from I.ok.hd hc) i1 a na1 its.toArray
    have D2 := PySem.Draws.list (prog := X.prog) (w := X.w) (A := X.A.in1) (show X.A.in1.handled = none from I.ok.hd hc) i2 b nb2 its2.toArray
    have lz : z < s.heap.objs.size := Heap.lt_size h1
    refine PySem.wpAny_pyNext_zipD2_item D D1 D2 h1 h2 h3 ⟨h4, tp⟩ ⟨h5, lp.isList⟩ lt1 lt2 fun v1 v2 h' tk p1 p2 z' to' s1' s2' hT hsz kp => ?_
    have e1 : v1 = u := by
      have q : its[i]? = some v1 := by simpa using p1
      exact Option.some.inj (q.symm.trans hu)
    have e2 : v2 = u2 := by
      have q : its2[i]? = some v2 := by simpa using p2
      exact Option.some.inj (q.symm.trans hu2)
    subst e1 e2
    refine ⟨_, rfl, PySem.wpAny_letOwnedTupleGo_zip (s := { s with heap := h', toks := tk }) z' fun h'' z'' sb => ?_⟩
    have hT2 : h''.get? s.heap.objs.size = some { cls := .type "tuple", data := .seq #[v1, v2] } := (sb.2 _ (Nat.ne_of_gt lz)).trans hT
    have new : ObjOk X.prog X.w (upd H s.heap.objs.size (.tup [x, y])) h'' s.heap.objs.size (.tup [x, y]) :=
      ⟨(show 2 ≤ sizeLine by decide), [v1, v2], Paired.cons ru (Paired.cons ru2 .nil), ⟨_, hT2, rfl, _, rfl⟩⟩
    have out : ∀ c, c ∉ [z, TI, TO, i1, i2] → c ≠ z ∧ c ≠ TO ∧ c ≠ i1 ∧ c ≠ i2 := fun c hn => ⟨fun e => hn (by simp [e]), fun e => hn (by simp [e]), fun e => hn (by simp [e]), fun e => hn (by simp [e])⟩
    have I1 := I.turnedNew (t' := tk) (ch := [z, TI, TO, i1, i2]) (h' := h'') (fun c o hn q => (sb.2 c (out c hn).1).trans (kp c o (out c hn).1 (out c hn).2.1 (out c hn).2.2.1 (out c hn).2.2.2 q)) hf (Nat.le_refl _) new
    refine ⟨.ref s.heap.objs.size, _, I1, rfl, ⟨_, x, y, rfl, I.hok.fresh (Nat.le_refl _), rfl, fun l hl => (I.tuple_inj hl hqx) ▸ hx, fun l hl => (I.list_inj hl hqy) ▸ hy⟩, ⟨z'', ?_, ⟨v1, v2, (sb.2 _ D.TOz).trans to'⟩, s1'.1.at fun o q => (sb.2 _ (fun e => D.zi1 e.symm)).trans q, s2'.1.at fun o q => (sb.2 _ (fun e => D.zi2 e.symm)).trans q⟩, fun c hm => ?_⟩
    · exact (sb.2 _ D.TIz).trans (kp _ _ D.TIz D.TITO D.TIi1 D.TIi2 h2)
    · have lt : c < s.heap.objs.size := by
        simp only [List.mem_cons, List.not_mem_nil, or_false] at hm
        rcases hm with q | q | q | q | q <;> subst q
        · exact lz
        · exact Heap.lt_size h2
        · exact Heap.lt_size h3
        · obtain ⟨_, e, _⟩ := h4
          exact Heap.lt_size e
        · obtain ⟨_, e, _⟩ := h5
          exact Heap.lt_size e
      rw [upd_ne (Nat.ne_of_lt lt)]
      exact (hf c hm).1
  done := by
    intro X eP ew eK hc i pins s σ H E I hf st hg
    subst eP ew eK
    obtain ⟨h1, h2, ⟨x0, y0, h3⟩, h4, h5⟩ := st
    obtain ⟨xs, ys, hqx, hqy, le1, le2, he⟩ := hg
    obtain ⟨its, rv, tp, _⟩ := I.tuple hqx
    obtain ⟨its2, rv2, lp, _⟩ := I.list hqy
    have q1 : its.toArray.size = xs.length := by
      rw [List.size_toArray]
      exact rv.length.symm
    have q2 : its2.toArray.size = ys.length := by
      rw [List.size_toArray]
      exact rv2.length.symm
    have na1 : a ≠ i1 := fun e => by
      obtain ⟨o, q1, q2, _⟩ := h4
      obtain ⟨o', q3, q4, _⟩ := tp
      rw [← e, q3] at q1
      cases q1
      rw [q4] at q2
      exact absurd q2 (by decide)
    have nb2 : b ≠ i2 := fun e => by
      obtain ⟨o, q1, q2, _⟩ := h5
      obtain ⟨o', q3, q4, _⟩ := lp.isList
      rw [← e, q3] at q1
      cases q1
      rw [q4] at q2
      exact absurd q2 (by decide)
    have D1 := PySem.Draws.tuple (prog := X.prog) (w := X.w) (A := X.A.in1) (show X.A.in1.handled = none from I.ok.hd hc) i1 a na1 its.toArray
    have D2 := PySem.Draws.list (prog := X.prog) (w := X.w) (A := X.A.in1) (show X.A.in1.handled = none from I.ok.hd hc) i2 b nb2 its2.toArray
    exact PySem.wpAny_pyNext_zipD2_end D D1 D2 h1 h2 h3 ⟨h4, tp⟩ ⟨h5, lp.isList⟩ (by omega) (by omega) (by omega) fun h' tk kp => ⟨rfl, I.turnedL (t' := tk) (ch := [z, TI, TO, i1, i2]) (fun c o hn q =>
      kp c o (fun e => hn (by simp [e])) (fun e => hn (by simp [e])) (fun e => hn (by simp [e])) (fun e => hn (by simp [e])) q) hf⟩
  self := fun A i s Q E st h => PySem.wpAny_pyIter_zip st.1 h
def iZipT (K : PySem.W.Frag) (ta : TA) : TI := fun σ H R => ta σ H fun vs H1 => ∃ a b xs ys, vs = [.ref a, .ref b] ∧ SqT K H1 a xs ∧ SqL K H1 b ys ∧ R (ItZt K a b) H1
section
variable {X : Cx} {e e2 : Expr} {ta : TA} {p pos tpos : Pos} {elts : List Expr} {kk : Nat}
theorem pi_zipT (hg : Gl X "zip") (hm : X.mg "zip" = none) (ha : PA X [e, e2] ta)
    (hs : starEach [e, e2] X.env = (false, eval e X.env) :: starEach [e2] X.env := by rfl) (hpl : (backTo pos (starEach [e2] X.env)).any (·.1) = false := by rfl) :
    PI X (.Tuple elts kk tpos) (.Call (.Name "zip" p) [e, e2] [] pos) (iZipT X.K ta) := by
  refine ⟨fun pins s σ H R I hw => Call_ (ld_blt I hg hm PyProof.Rows.boot_zip (PyProof.Rows.callWith_type1 (thn (ha.run pos pins s σ H _ I hw) fun us s1 hu => ?_) hs hpl))⟩
  obtain ⟨vs, H1, I1, r1, a, b, xs, ys, rfl, hqx, hqy, q⟩ := hu
  obtain ⟨u1, u2, rfl, ru1, ru2⟩ := vals2 r1
  cases (show u1 = Value.ref a from ru1)
  cases (show u2 = Value.ref b from ru2)
  obtain ⟨its, rv, tp, _⟩ := I1.tuple hqx
  obtain ⟨its2, rv2, lp, _⟩ := I1.list hqy
  have la : a < s1.heap.objs.size := tp.lt
  have lb : b < s1.heap.objs.size := lp.lt
  refine PySem.zip_begins2 (PySem.begins_tuple a its.toArray) (PySem.begins_list b its2.toArray) tp lp.isList fun h' hz hTI hTO h1 h2 hsz hk => PySem.wpAny_pyIter_zip hz ?_
  refine ⟨s1.heap.objs.size + 4, [s1.heap.objs.size + 4, s1.heap.objs.size + 2, s1.heap.objs.size + 3, s1.heap.objs.size, s1.heap.objs.size + 1], _, _, H1, rfl, I1.kept (t' := s1.toks) hk,
    turnZt (PySem.zip_sep2 (N := s1.heap.objs.size) (fp1 := [a]) (fp2 := [b]) (fun c hc => (List.mem_singleton.mp hc) ▸ la) (fun c hc => (List.mem_singleton.mp hc) ▸ lb)), ⟨hz, hTI, ⟨_, _, hTO⟩, ⟨_, h1, rfl, rfl⟩, ⟨_, h2, rfl, rfl⟩⟩, fun c hm => ?_, q⟩
  have hle : s1.heap.objs.size ≤ c := by
    simp only [List.mem_cons, List.not_mem_nil, or_false] at hm
    rcases hm with q | q | q | q | q <;> subst q <;> first | exact Nat.le_refl _ | exact Nat.le_add_right _ _
  exact I1.fpOk hle (I1.hok.fresh hle)
/-- zip of two lists, or of a tuple and a list -/
theorem uZip (hg : Gl X "zip") (hm : X.mg "zip" = none) (ha : PA X [e, e2] ta)
    (hs : starEach [e, e2] X.env = (false, eval e X.env) :: starEach [e2] X.env := by rfl) (hpl : (backTo pos (starEach [e2] X.env)).any (·.1) = false := by rfl) :
    PI X (.Tuple elts kk tpos) (.Call (.Name "zip" p) [e, e2] [] pos) (fun σ H R => iZip X.K ta σ H R ∨ iZipT X.K ta σ H R) := PI.or (pi_zip hg hm ha hs hpl) (pi_zipT hg hm ha hs hpl)
end

/-! ### walks over these -/
section
variable {K : PySem.W.Frag} {a b : Addr} {xs ys : List V}
theorem walkEt : Walk (ItEt K a) xs.length (fun H => SqT K H a xs) (YPair (fun i => some (.int (i : Nat))) (fun i => xs[i]?)) := by
  refine ⟨fun i _ hi q => ⟨xs, xs[i], q, by simp [hi]⟩, fun _ q => ⟨xs, q, rfl⟩, fun i H v H' _ q y => ?_⟩
  obtain ⟨T, x, e1, e2, e3, e4⟩ := y
  exact ⟨T, _, x, e1, e2, e3, rfl, e4 xs q⟩
theorem walkZt {n : Nat} (hn : n = min xs.length ys.length) : Walk (ItZt K a b) n (fun H => SqT K H a xs ∧ SqL K H b ys) (YPair (fun i => xs[i]?) (fun i => ys[i]?)) := by
  subst hn
  refine ⟨fun i _ hi q => ?_, fun _ q => ⟨xs, ys, q.1, q.2, by omega, by omega, by omega⟩, fun i H v H' _ q y => ?_⟩
  · have l1 : i < xs.length := by omega
    have l2 : i < ys.length := by omega
    exact ⟨xs, ys, xs[i], ys[i], q.1, q.2, by simp [l1], by simp [l2]⟩
  · obtain ⟨T, x, y, e1, e2, e3, e4, e5⟩ := y
    exact ⟨T, x, y, e1, e2, e3, e4 xs q.1, e5 ys q.2⟩
end
end Ld

set_option Elab.async false
set_option linter.all false
set_option maxRecDepth 100000
set_option maxHeartbeats 4000000
/-! Lib, part S: the set of a tuple of unlike texts, its length. -/
namespace Ld
open PySem PySem.Spec PyProof.Rows

/-- the texts of xs as a set's members -/
def has (xs : List Str) (k : Str) : Bool := xs.any (· == k)
theorem has_snoc {xs : List Str} {x : Str} (k : Str) : has (xs ++ [x]) k = (has xs k || decide (k = x)) := by
  unfold has
  rw [List.any_append]
  congr 1
  by_cases e : k = x
  · subst e
    simp
  · have e2 : (x == k) = false := beq_eq_false_iff_ne.mpr fun z => e z.symm
    simp [e, e2]
theorem not_has {xs : List Str} {x : Str} (h : x ∉ xs) : has xs x = false := by
  unfold has
  rw [List.any_eq_false]
  intro y hy e
  exact h (eq_of_beq e ▸ hy)
section
variable {prog : Program} {w : World} {A : Around} {R : Result → Shared → Prop} {I a S : Addr} {items : Array Value}
/-- the loop of set.update over a tuple's iterator, from the i-th item on -/
theorem set_loop (hh : A.in1.handled = none) (haI : a ≠ I) (hSI : S ≠ I) (hSa : S ≠ a) {xs : List Str} (hi : StrsAre items.toList xs) (nd : xs.Nodup) (few : xs.length ≤ 1000) :
    ∀ (rest pre : List Str) (s : Shared), xs = pre ++ rest → s.heap.IsTupleIter I a pre.length → s.heap.IsTuple a items → s.heap.SetOf (strKind prog w) S (has pre) pre.length →
      (∀ h' tk, h'.SetOf (strKind prog w) S (has xs) xs.length → (∀ b o, b ≠ S → b ≠ I → s.heap.get? b = some o → h'.get? b = some o) → R (.ok (.ret .none)) { s with heap := h', toks := tk }) →
      codeAny (model prog w) A (.builtin "set.update.loop" ⟨[.ref S, .ref I], []⟩) R s := by
  intro rest
  induction rest with
  | nil =>
    intro pre s e hit ht hS hR
    rw [List.append_nil] at e
    subst e
    have len : items.size = xs.length := by rw [← StrsAre.len_eq hi, Array.length_toList]
    refine codeAny_builtin F.entry_set_update_loop ?_
    rw [Around.under_plainId F.plain_set_update_loop _]
    refine wpAny_bind (wpAny_pyNext_tuple_end hh hit ht (by simp [len]) fun h' eb => ?_)
    refine wpAny_pure (hR h' s.toks ?_ fun b o _ hb q => eb b o hb q)
    obtain ⟨o, es, ep, t, q, r⟩ := hS
    exact ⟨o, es, ep, t, eb _ _ hSI q, r⟩
  | cons x rest ih =>
    intro pre s e hit ht hS hR
    have len : items.size = xs.length := by rw [← StrsAre.len_eq hi, Array.length_toList]
    have hx : xs[pre.length]? = some x := by rw [e]; simp
    have hlt : pre.length < items.size := by rw [len, e]; simp
    have fresh : x ∉ pre := fun q => by
      rw [e] at nd
      exact (List.nodup_append.mp nd).2.2 x q x List.mem_cons_self rfl
    obtain ⟨t, ev⟩ : ∃ t, items[pre.length] = .str x t := by
      obtain ⟨t, q⟩ := SS.strs_at hi pre.length items[pre.length] (by simp [hlt])
      exact ⟨t, by rw [q, List.getD_eq_getElem?_getD, hx]; rfl⟩
    refine codeAny_builtin F.entry_set_update_loop ?_
    rw [Around.under_plainId F.plain_set_update_loop _]
    refine wpAny_bind (wpAny_pyNext_tuple_item hit ht (x := .str x t) (by rw [Array.getElem?_eq_getElem hlt, ev]) fun h1 hit1 b1 => ?_)
    have ht1 : h1.IsTuple a items := ht.extBut b1.extBut haI
    have hS1 : h1.SetOf (strKind prog w) S (has pre) pre.length := by
      obtain ⟨o, es, ep, tb, q, r⟩ := hS
      exact ⟨o, es, ep, tb, (b1.2 S hSI).trans q, r⟩
    refine wpAny_bind (wpAny_holding ?_)
    show wpAny _ _ (setAdd S (.str x t)) _ _ _
    unfold setAdd
    refine wpAny_holding (wpAny_bind ((strKind prog w).pyHash (k := x) (strKind_is _ _ _ _) ?_))
    have small : pre.length + 1 < scanBound := by
      have : pre.length < xs.length := by rw [e]; simp
      unfold scanBound
      omega
    refine wpAny_setAddHashed_of (knd := strKind prog w) (s := { s with heap := h1, toks := s.toks + 1 }) (strKind_is _ _ _ _) rfl hS1 small fun h2 b2 hS2 => ?_
    have hS3 : h2.SetOf (strKind prog w) S (has (pre ++ [x])) (pre ++ [x]).length :=
      SetOf_congr hS2 (fun k => by rw [has_snoc]) (by rw [not_has fresh]; simp)
    have hit2 : h2.IsTupleIter I a (pre ++ [x]).length := by
      rw [List.length_append]
      exact hit1.at fun o q => (b2.2 I (fun z => hSI z.symm)).trans q
    have ht2 : h2.IsTuple a items := ht1.at fun o q => (b2.2 a (fun z => hSa z.symm)).trans q
    refine wpAny_pure ⟨plainId_quiet F.plain_set_update_loop _, ih (pre ++ [x]) { s with heap := h2, toks := s.toks + 1 } (by rw [e]; simp) hit2 ht2 hS3 fun h' tk q1 q2 => ?_⟩
    exact hR h' tk q1 fun b o n1 n2 q => q2 b o n1 n2 ((b2.2 b n1).trans ((b1.2 b n2).trans q))
end

section
variable {prog : Program} {w : World} {A : Around} {E : Value → Shared → Prop} {s : Shared}
/-- an empty set, just made -/
abbrev noSet (led : Bool) : Obj := { cls := .type "set", dict := none, data := .set #[] 0 (.fresh 0 0 led) }
/-- what set(t) leaves: a new set with these members -/
def SetDone (s : Shared) (xs : List Str) (prog : Program) (w : World) (s2 : Shared) : Prop := ∃ h' tk, s2 = { s with heap := h', toks := tk } ∧ h'.SetOf (strKind prog w) s.heap.objs.size (has xs) xs.length ∧
  ∀ b o, s.heap.get? b = some o → h'.get? b = some o
theorem set_init {a : Addr} {items : Array Value} {xs : List Str} {led : Bool} (hh : A.handled = none) (ht : s.heap.IsTuple a items) (hi : StrsAre items.toList xs) (nd : xs.Nodup) (few : xs.length ≤ 1000) :
    codeAny (model prog w) A (.call (.builtin "set.__init__") ⟨[.ref s.heap.objs.size, .ref a], []⟩) (wants (fun r s2 => r = .none ∧ SetDone s xs prog w s2) E) { s with heap := s.heap.push (noSet led) } := by
  have hS : (s.heap.push (noSet led)).get? s.heap.objs.size = some (noSet led) := Heap.get?_push_size _ rfl
  have hT : Shared.TypeIs { s with heap := s.heap.push (noSet led) } (.ref s.heap.objs.size) "set" := ⟨_, hS, rfl⟩
  refine codeAny_call_builtin PySem.F.called_set.init.plain PySem.F.entry_set_init (check_set_init_1 hT ?_)
  obtain ⟨⟨tc, tdct, tdt, tsl⟩, g0, c0, n0, d0⟩ := id ht
  simp only at c0 d0
  subst c0 d0
  have la : a < s.heap.objs.size := Heap.lt_size g0
  have g1 : (s.heap.push (noSet led)).get? a = some { cls := .type "tuple", dict := tdct, data := .seq items n0, slots := tsl } := Heap.get?_push_of_some _ g0
  have t1 : (s.heap.push (noSet led)).IsTuple a items := ⟨_, g1, rfl, n0, rfl⟩
  have q1 := PySem.F.sub_tuple_set
  have q2 := PySem.F.sub_tuple_frozenset
  have q3 : (Value.type "tuple" == Value.type "dict") = false := by decide
  unfold Builtin.«set.__init__» noKeywords Builtin.Frozenset.updateFrom
  generalize eIt : pyIter = It
  wp_walk
  subst eIt
  refine wpAny_pyIter_tuple t1 (wpAny_bind (wpAny_runValue ?_))
  have sz : (s.heap.push (noSet led)).objs.size = s.heap.objs.size + 1 := Heap.size_push ..
  have n1 : a ≠ (s.heap.push (noSet led)).objs.size := by
    rw [sz]
    exact Nat.ne_of_lt (Nat.lt_succ_of_lt la)
  have n2 : s.heap.objs.size ≠ (s.heap.push (noSet led)).objs.size := by
    rw [sz]
    exact Nat.ne_of_lt (Nat.lt_succ_self _)
  refine set_loop (by simp [hh]) n1 n2 (Nat.ne_of_gt la) hi nd few xs [] _ rfl ⟨_, Heap.get?_push_size _ rfl, rfl, rfl⟩ (t1.push _) ?_ fun h' tk z1 z2 => ?_
  · have g2 : ((s.heap.push (noSet led)).push { cls := .type "tuple_iterator", data := .fields #[.ref a, .int 0 0] }).get? s.heap.objs.size = some (noSet led) := Heap.get?_push_of_some _ hS
    exact SetOf_congr ((setObjOf_fresh (knd := strKind prog w) led).setOf g2 (by unfold scanBound; omega)) (fun _ => rfl) rfl
  · refine wpAny_pure (wpAny_pure ⟨rfl, h', tk, rfl, z1, fun b o q => z2 b o (Nat.ne_of_lt (Heap.lt_size q)) ?_ (Heap.get?_push_of_some _ (Heap.get?_push_of_some _ q))⟩)
    rw [sz]
    exact Nat.ne_of_lt (Nat.lt_succ_of_lt (Heap.lt_size q))
theorem call_set {a : Addr} {items : Array Value} {xs : List Str} {Q : Value → Shared → Prop} (hh : A.handled = none) (ht : s.heap.IsTuple a items) (hi : StrsAre items.toList xs) (nd : xs.Nodup) (few : xs.length ≤ 1000)
    (h : ∀ s2, SetDone s xs prog w s2 → Q (.ref s.heap.objs.size) s2) : wpAny (model prog w) A (call (.type "set") [.ref a]) Q E s := by
  obtain ⟨c, tl, mro⟩ := PySem.F.called_set.mro
  have made := PySem.F.called_set.made
  have sub := PySem.F.called_set.sub
  refine wpAny_call (codeAny_of_tree ?_)
  refine wpAny_pure ⟨Code.quiet_builtin _ (by decide +kernel), codeAny_builtin PySem.F.entry_type_call ?_⟩
  rw [Around.under_plain (weight_type_call_type "set" [.ref a] []) rfl]
  have k1 := PySem.F.called_set.notType
  have k2 := PySem.F.called_set.canCreate
  have k3 := PySem.F.typeCall_set_1 (.ref a)
  repeat (any_goals (first | assumption | wp_step))
  refine codeAny_mono (code_set_new_1 (.ref a) (E := E) (Q₁ := fun ob s1 => ∃ led : Bool, ob = .ref s.heap.objs.size ∧ s1 = { s with heap := s.heap.push (noSet led) }) fun led => ⟨led, rfl, rfl⟩) fun r s1 hr => ?_
  match r, hr with
  | .error _, hr => exact hr
  | .ok (.ret ob), hr =>
    obtain ⟨led, rfl, rfl⟩ := hr
    have hS : (s.heap.push (noSet led)).get? s.heap.objs.size = some (noSet led) := Heap.get?_push_size _ rfl
    have hT : Shared.TypeIs { s with heap := s.heap.push (noSet led) } (.ref s.heap.objs.size) "set" := ⟨_, hS, rfl⟩
    have k4 := PySem.F.called_set.init.lookup
    have k5 := PySem.F.called_set.init.bind (.ref s.heap.objs.size)
    repeat (any_goals (first | assumption | wp_step))
    refine codeAny_mono (set_init (E := E) (led := led) (by simp [hh]) ht hi nd few) fun r2 s2 hr2 => ?_
    match r2, hr2 with
    | .error _, hr2 => exact hr2
    | .ok (.ret _), ⟨e, z⟩ =>
      subst e
      have z' := z
      obtain ⟨h', tk, rfl, _⟩ := z'
      repeat (any_goals (first | assumption | wp_step))
      exact h _ z
    | .ok .next, hr2 => exact hr2.elim
    | .ok .brk, hr2 => exact hr2.elim
    | .ok .cont, hr2 => exact hr2.elim
  | .ok .next, hr => exact hr.elim
  | .ok .brk, hr => exact hr.elim
  | .ok .cont, hr => exact hr.elim
end
end Ld

set_option Elab.async false
set_option linter.all false
set_option maxRecDepth 100000
set_option maxHeartbeats 2000000
/-! Lib, part C: data told of values; lengths, classes, sets by data; what the top's constants hold. -/
namespace Ld
open PySem PySem.Spec PyProof.Rows L2

/-! ### data stands -/
theorem same_seqT {K : PySem.W.Frag} {H H' : Hp} {a : Addr} {xs : List V} (e : Same H H') (h : SqT K H a xs) : SqT K H' a xs := by
  rcases h with (h | ⟨o, h⟩) | h
  · exact .inl (.inl (e _ _ h))
  · exact .inl (.inr ⟨o, e _ _ h⟩)
  · exact .inr h
mutual
theorem dpSame {K : PySem.W.Frag} {H H' : Hp} (e : Same H H') : ∀ {v : V} {d : PyData}, Dp K H v d → Dp K H' v d
  | _, _, .non => .non
  | _, _, .bl b => .bl b
  | _, _, .int i => .int i
  | _, _, .str x => .str x
  | _, _, .lst h hs => .lst (e.seq h) (dpsSame e hs)
  | _, _, .tup h hs => .tup (same_seqT e h) (dpsSame e hs)
theorem dpsSame {K : PySem.W.Frag} {H H' : Hp} (e : Same H H') : ∀ {vs : List V} {ds : List PyData}, DpAll K H vs ds → DpAll K H' vs ds
  | _, _, .nil => .nil
  | _, _, .cons h hs => .cons (dpSame e h) (dpsSame e hs)
end
theorem dps_len {K : PySem.W.Frag} {H : Hp} : ∀ {vs : List V} {ds : List PyData}, DpAll K H vs ds → vs.length = ds.length
  | _, _, .nil => rfl
  | _, _, .cons _ t => by simp [dps_len t]
theorem dps_get {K : PySem.W.Frag} {H : Hp} : ∀ {vs : List V} {ds : List PyData} {i : Nat} {v : V}, DpAll K H vs ds → vs[i]? = some v → ∃ d, ds[i]? = some d ∧ Dp K H v d
  | _, _, i, v, .nil, h => by simp at h
  | _, _, 0, v, .cons h _, e => by
    simp at e
    subst e
    exact ⟨_, rfl, h⟩
  | _, _, i + 1, v, .cons _ t, e => by
    simp at e
    obtain ⟨d, q, r⟩ := dps_get t e
    exact ⟨d, by simpa using q, r⟩
theorem dps_append {K : PySem.W.Frag} {H : Hp} : ∀ {vs ws : List V} {ds es : List PyData}, DpAll K H vs ds → DpAll K H ws es → DpAll K H (vs ++ ws) (ds ++ es)
  | _, _, _, _, .nil, h => h
  | _, _, _, _, .cons h t, k => .cons h (dps_append t k)
theorem dps_drop {K : PySem.W.Frag} {H : Hp} : ∀ {vs : List V} {ds : List PyData} (n : Nat), DpAll K H vs ds → DpAll K H (vs.drop n) (ds.drop n)
  | _, _, 0, h => h
  | _, _, _ + 1, .nil => .nil
  | _, _, n + 1, .cons _ t => dps_drop n t
theorem dps_take {K : PySem.W.Frag} {H : Hp} : ∀ {vs : List V} {ds : List PyData} (n : Nat), DpAll K H vs ds → DpAll K H (vs.take n) (ds.take n)
  | _, _, 0, _ => .nil
  | _, _, _ + 1, .nil => .nil
  | _, _, n + 1, .cons h t => .cons h (dps_take n t)
/-- a tuple's items are told by its data -/
theorem dp_tup {K : PySem.W.Frag} {H : Hp} {v : V} {ds : List PyData} (h : Dp K H v (.tuple ds)) : ∃ a xs, v = .ref a ∧ SqT K H a xs ∧ DpAll K H xs ds := by
  cases h with
  | tup h hs => exact ⟨_, _, rfl, h, hs⟩
theorem dp_lst {K : PySem.W.Frag} {H : Hp} {v : V} {ds : List PyData} (h : Dp K H v (.list ds)) : ∃ a xs, v = .ref a ∧ SqL K H a xs ∧ DpAll K H xs ds := by
  cases h with
  | lst h hs => exact ⟨_, _, rfl, h, hs⟩
theorem dp_str {K : PySem.W.Frag} {H : Hp} {v : V} {z : Str} (h : Dp K H v (.str z)) : v = .str z := by
  cases h
  rfl
theorem dp_int {K : PySem.W.Frag} {H : Hp} {v : V} {z : Int} (h : Dp K H v (.int z)) : v = .int z := by
  cases h
  rfl
theorem dp_bool {K : PySem.W.Frag} {H : Hp} {v : V} {z : Bool} (h : Dp K H v (.bool z)) : v = .bl z := by
  cases h
  rfl

/-! ### classes by data -/
def tyD : PyData → String
  | .none => "NoneType"
  | .bool _ => "bool"
  | .int _ => "int"
  | .str _ => "str"
  | .list _ => "list"
  | .tuple _ => "tuple"
  | .dict _ => "dict"
/-- isinstance by a data's kind -/
def isD (n : String) (d : PyData) : Bool := tyD d == n || (n == "int" && tyD d == "bool")
theorem tyxL {K : PySem.W.Frag} {H : Hp} {a : Addr} {xs : List V} (h : SqL K H a xs) : TyX K H (.ref a) (.type "list") := by
  rcases h with (h | ⟨o, h⟩) | ⟨o, _, _, h, c, _⟩
  · exact .base (.lst h)
  · exact .base (.frz h)
  · exact .kList h c
theorem tyxT {K : PySem.W.Frag} {H : Hp} {a : Addr} {xs : List V} (h : SqT K H a xs) : TyX K H (.ref a) (.type "tuple") := by
  rcases h with (h | ⟨o, h⟩) | ⟨o, _, _, h, c, _⟩
  · exact .base (.tup h)
  · exact .fTuple h
  · exact .kTuple h c
theorem tyx {K : PySem.W.Frag} {H : Hp} {v : V} {d : PyData} (h : Dp K H v d) : TyX K H v (.type (tyD d)) := by
  cases h with
  | non => exact .base .non
  | bl b => exact .base (.bl b)
  | int i => exact .base (.int i)
  | str x => exact .base (.str x)
  | lst h _ => exact tyxL h
  | tup h _ => exact tyxT h
theorem kitD : ∀ t ∈ ["NoneType", "bool", "int", "str", "list", "tuple"], ∀ n ∈ ["bool", "int", "str", "list", "tuple"], kitB t n = some (t == n || (n == "int" && t == "bool")) := by
  decide +kernel
theorem dp_kind {K : PySem.W.Frag} {H : Hp} {v : V} {d : PyData} (h : Dp K H v d) : tyD d ∈ ["NoneType", "bool", "int", "str", "list", "tuple"] := by
  cases h <;> simp [tyD]
/-- isinstance(x, n), n one of five built-in classes -/
theorem isi_dp {K : PySem.W.Frag} {H : Hp} {v : V} {d : PyData} {n : String} {Q : VK} (h : Dp K H v d) (q : Q (.bl (isD n d)) H) (hn : n ∈ ["bool", "int", "str", "list", "tuple"] := by decide) : rIsi K [v, .ty n] H Q :=
  ⟨v, .ty n, .type (tyD d), .type n, isD n d, rfl, .ty n, tyx h, kit_ty (kitD _ (dp_kind h) _ hn), q⟩

/-! ### len of whatever stands there -/
section
variable {X : Cx}
theorem uLen : CallR X (.builtin "len") (fun xs H Q => (∃ p ys, xs = [.ref p] ∧ (SqL X.K H p ys ∨ SqT X.K H p ys) ∧ Q (.int ys.length) H) ∨ (∃ z, xs = [.str z] ∧ z.length ≤ sizeLine ∧ Q (.int z.length) H)) := call_len_seq.or call_len_str
/-- len(set(t)) of a tuple of unlike texts -/
def tLenSetT (K : PySem.W.Frag) (ta : TE) : TE := fun σ H Q => ta σ H fun x H1 => ∃ (a : Addr) (xs : List Str), x = .ref a ∧ SqT K H1 a (xs.map V.str) ∧ xs.length ≤ 1000 ∧ xs.Nodup ∧ Q (.int (xs.length : Nat)) H1
theorem strs_of_vals : ∀ {ys : List Str} {us : List Value}, Vals (ys.map V.str) us → StrsAre us ys
  | [], _, .nil => .nil
  | y :: ys, _, .cons h t => by
    obtain ⟨k, rfl⟩ := h
    exact .cons _ _ (strs_of_vals t)
theorem pe_lenSetT {a : Expr} {ta : TE} {p p2 q pos : Pos} (hc : X.calm = true) (hg : Gl X "len") (hm : X.mg "len" = none) (hg2 : Gl X "set") (hm2 : X.mg "set" = none) (ha : PE X a ta)
    (na : starEach [a] X.env = (false, eval a X.env) :: starEach [] X.env := by rfl) : PE X (.Call (.Name "len" p) [.Call (.Name "set" p2) [a] [] q] [] pos) (tLenSetT X.K ta) := by
  refine ⟨fun pins s σ H Q I h => Call_ (ld_blt I hg hm boot_len (PyProof.Rows.callWith_builtin1 (PyProof.Rows.args_cons (Call_ (ld_blt I hg2 hm2 PyProof.Rows.boot_set ?_)) rfl) rfl rfl))⟩
  refine PyProof.Rows.callWith_type1 (PyProof.Rows.args_cons (thn (ha.run pins s σ H _ I h) fun v s1 hv => PyProof.Rows.args_nil ?_) na) na rfl
  obtain ⟨x, H1, I1, r1, t, xs, rfl, hq, few, nd, q1⟩ := hv
  cases (show v = Value.ref t from r1)
  obtain ⟨its, r, tp, _⟩ := I1.tuple hq
  refine call_set (I1.ok.hd hc) (show s1.heap.IsTuple t its.toArray from tp) (strs_of_vals (by simpa using r)) nd few fun s2 z => ?_
  obtain ⟨h', tk, rfl, hS, kp⟩ := z
  refine PyProof.Rows.args_nil ?_
  obtain ⟨o, es, ep, tb, ho, hex, hd, _, _, _, hf, hn⟩ := hS
  have I2 : Inv X pins σ H1 { s1 with heap := h', toks := tk } := I1.kept kp
  refine call_len_set ho hex hd hf (by rw [hn]; omega) ⟨.int (xs.length : Nat), H1, I2.tok _, ⟨_, by rw [hn]⟩, q1⟩
end

/-! ### the top's constants -/
/-- the data of a value of the written part: ints, texts, tuples of these -/
def denK (K : PySem.W.Frag) : Nat → Value → Option PyData
  | _, .none => some .none
  | _, .bool b => some (.bool b)
  | _, .int i _ => some (.int i)
  | _, .str x _ => some (.str x)
  | n + 1, .ref a => match K.lookup a with
    | some ⟨.type "tuple", _, .seq its _, _⟩ => if its.size ≤ 1000 then (its.toList.mapM (denK K n)).map .tuple else none
    | _ => none
  | _, _ => none
end Ld

set_option Elab.async false
set_option linter.all false
set_option maxRecDepth 100000
set_option maxHeartbeats 2000000
/-! Lib, part W: the rules whose readings name the written part, with that part as a letter (within a comprehension's block the block's own names may not stand in a reading). -/
namespace Ld
open PySem PySem.Spec PyProof.Rows L2
section
variable {X : Cx} {K : PySem.W.Frag} {a b e e2 l o : Expr} {ta tb te tl : TE} {t tr : TA} {p p2 q pos tpos apos cpos : Pos} {kk : Nat} {elts es : List Expr}
theorem pe_globR {x : Str} {r : Addr} (hg : Gl X x) (h : X.mg x = some (.ref r)) (hd : (x == ("__debug__" : Str)) = false := by decide) : PE X (.Name x pos) (tC (.ref r)) := pe_glob hg h rfl hd
/-- == of scalars by value, of all else by data -/
def rEqU (K : PySem.W.Frag) : R2 := fun x y H Q => if scal x y = true then Q (.bl (decide (x = y))) H else rEqD K x y H Q
def rNeU (K : PySem.W.Frag) : R2 := fun x y H Q => if scal x y = true then Q (.bl (!decide (x = y))) H else rNeD K x y H Q
theorem rEqU_ss {a b : Str} {H : Hp} {Q : VK} : rEqU K (.str a) (.str b) H Q = Q (.bl (decide (a = b))) H := by simp [rEqU, scal]
theorem rEqU_ii {a b : Int} {H : Hp} {Q : VK} : rEqU K (.int a) (.int b) H Q = Q (.bl (decide (a = b))) H := by simp [rEqU, scal]
theorem rEqU_bb {a b : Bool} {H : Hp} {Q : VK} : rEqU K (.bl a) (.bl b) H Q = Q (.bl (decide (a = b))) H := by simp [rEqU, scal]
theorem rEqU_r {a : Addr} {y : V} {H : Hp} {Q : VK} : rEqU K (.ref a) y H Q = rEqD K (.ref a) y H Q := by cases y <;> simp [rEqU, scal]
theorem rNeU_ss {a b : Str} {H : Hp} {Q : VK} : rNeU K (.str a) (.str b) H Q = Q (.bl (!decide (a = b))) H := by simp [rNeU, scal]
theorem rNeU_ii {a b : Int} {H : Hp} {Q : VK} : rNeU K (.int a) (.int b) H Q = Q (.bl (!decide (a = b))) H := by simp [rNeU, scal]
theorem rNeU_bb {a b : Bool} {H : Hp} {Q : VK} : rNeU K (.bl a) (.bl b) H Q = Q (.bl (!decide (a = b))) H := by simp [rNeU, scal]
theorem rNeU_r {a : Addr} {y : V} {H : Hp} {Q : VK} : rNeU K (.ref a) y H Q = rNeD K (.ref a) y H Q := by cases y <;> simp [rNeU, scal]
theorem kEq (hu : X.A.units + 64 < cLine) (hK : X.K = K := by rfl) : OpR X (compareOp .Eq) (rEqU K) := by
  subst hK
  intro pins s σ H x y v u Q I rx ry h
  refine uEq hu pins s σ H x y v u Q I rx ry ?_
  unfold rEqU at h
  by_cases c : scal x y = true
  · rw [if_pos c] at h
    exact .inl ⟨c, h⟩
  · rw [if_neg c] at h
    exact .inr h
theorem kNe (hu : X.A.units + 64 < cLine) (hK : X.K = K := by rfl) : OpR X (compareOp .NotEq) (rNeU K) := by
  subst hK
  intro pins s σ H x y v u Q I rx ry h
  refine uNe hu pins s σ H x y v u Q I rx ry ?_
  unfold rNeU at h
  by_cases c : scal x y = true
  · rw [if_pos c] at h
    exact .inl ⟨c, h⟩
  · rw [if_neg c] at h
    exact .inr h
def rInU (K : PySem.W.Frag) : R2 := fun x y H Q => rIn K false x y H Q ∨ (∃ (c : Nat) (z : Str), x = .str ⟨#[c]⟩ ∧ y = .str z ∧ Q (.bl (decide (c ∈ z.cps.toList))) H)
theorem kIn (hK : X.K = K := by rfl) : OpR X (compareOp .In) (rInU K) := hK ▸ uIn
theorem kNotIn (hK : X.K = K := by rfl) : OpR X (compareOp .NotIn) (rIn K true) := hK ▸ uNotIn
def rAddU (K : PySem.W.Frag) : R2 := fun x y H Q => rI0 (fun i j => .int (i + j)) x y H Q ∨ rCat x y H Q ∨ rCatA K x y H Q
theorem rAddU_ii {i j : Int} {H : Hp} {Q : VK} : rAddU K (.int i) (.int j) H Q = Q (.int (i + j)) H := by simp [rAddU, rI0, rCat, rCatA]
theorem kAdd (hK : X.K = K := by rfl) : OpR X (binaryOp .Add) (rAddU K) := hK ▸ uAdd
/-- an item of a list or a tuple; a sign of a text -/
def rIxU (K : PySem.W.Frag) : R2 := fun x y H Q => (∃ p xs i v, x = .ref p ∧ y = .int i ∧ (SqL K H p xs ∨ SqT K H p xs) ∧ atI xs i = some v ∧ Q v H) ∨ rIxS x y H Q
theorem kIx (hK : X.K = K := by rfl) : IxR X (rIxU K) := by
  subst hK
  intro value slice pins s σ H x y v u Q I rx ry h
  refine ix_seq value slice pins s σ H x y v u Q I rx ry ?_
  rcases h with ⟨p, xs, i, z, e1, e2, h | h, r⟩ | h
  · exact .inl ⟨p, xs, i, z, e1, e2, h, r⟩
  · exact .inr (.inl ⟨p, xs, i, z, e1, e2, h, r⟩)
  · exact .inr (.inr h)
def rSlU (K : PySem.W.Frag) := fun (x : V) (lo hi : Option Int) (H : Hp) (Q : VK) => rSlL K x lo hi H Q ∨ rSlA K x lo hi H Q ∨ rSlS x lo hi H Q
theorem kSl (hK : X.K = K := by rfl) : SlR X (rSlU K) := hK ▸ uSl
def rLenU (K : PySem.W.Frag) : List V → Hp → VK → Prop := fun xs H Q => (∃ p ys, xs = [.ref p] ∧ (SqL K H p ys ∨ SqT K H p ys) ∧ Q (.int ys.length) H) ∨ (∃ z, xs = [.str z] ∧ z.length ≤ sizeLine ∧ Q (.int z.length) H)
theorem kLen (hK : X.K = K := by rfl) : CallR X (.builtin "len") (rLenU K) := hK ▸ uLen
theorem kIsi (hK : X.K = K := by rfl) : CallR X (.builtin "isinstance") (rIsi K) := hK ▸ call_isi
theorem kIsiT (hK : X.K = K := by rfl) : CallR X (.builtin "isinstance") (rIsiT K) := hK ▸ call_isiT
theorem kAll (hc : X.calm = true) (hK : X.K = K := by rfl) : CallR X (.builtin "all") (rAll K) := hK ▸ cr_all hc
theorem kAny (hc : X.calm = true) (hK : X.K = K := by rfl) : CallR X (.builtin "any") (rAny K) := hK ▸ cr_any hc
def rTupU (K : PySem.W.Frag) : List V → Hp → VK → Prop := fun xs H Q => ∃ p ys, xs = [.ref p] ∧ ((SqL K H p ys ∧ ∀ l, H l = none → Q (.ref l) (upd H l (.tup ys))) ∨ (SqT K H p ys ∧ Q (.ref p) H))
theorem kTuple (hK : X.K = K := by rfl) : CallR X (.type "tuple") (rTupU K) := hK ▸ call_tuple_of
def rListU (K : PySem.W.Frag) : List V → Hp → VK → Prop := fun xs H Q => ∃ p ys, xs = [.ref p] ∧ (SqL K H p ys ∨ SqT K H p ys) ∧ ∀ l, H l = none → Q (.ref l) (upd H l (.lst ys))
theorem kList (hK : X.K = K := by rfl) : CallR X (.type "list") (rListU K) := hK ▸ call_list_of
theorem kFld {f : Str} (he : PE X e te) (hb : attributeBase e f X.env (eval e X.env) = eval e X.env) (hK : X.K = K := by rfl) : PE X (.Attribute e f pos) (tFld K te f) := hK ▸ pe_fld he hb
theorem kBm {name : Str} {T id : String} {r : V → List V → Hp → VK → Prop} (pa : PlainAttrs T) (slot : Slot T name id) (hty : typeOf (.builtin id) = pure (.type "method_descriptor")) (hm : MtR X id r) (ho : PE X o te) (ha : PA X (e :: es) t) (hK : X.K = K := by rfl)
    (hbase : attributeBase o name X.env (eval o X.env) = eval o X.env := by rfl) (he : starEach (e :: es) X.env = (false, eval e X.env) :: starEach es X.env := by rfl) (hpl : (backTo cpos (starEach es X.env)).any (·.1) = false := by rfl)
    (hfew : ((backTo cpos (starEach (e :: es) X.env)).all (!·.1) && (backToKw cpos (keywordEach [] X.env)).all (·.1.isSome) && decide ((e :: es).length + ([] : List Keyword).length + (if ([] : List Keyword).isEmpty then 0 else 1) < 30)) = true := by rfl)
    (hline : (apos.endLine == cpos.line) = true := by rfl) : PE X (.Call (.Attribute o name apos) (e :: es) [] cpos) (tBM K T r te t) := hK ▸ pe_bm pa slot hty hm ho ha hbase hfew hline he hpl
theorem kBm0 {name : Str} {T id : String} {r : V → List V → Hp → VK → Prop} (pa : PlainAttrs T) (slot : Slot T name id) (hty : typeOf (.builtin id) = pure (.type "method_descriptor")) (hm : MtR X id r) (ho : PE X o te) (hK : X.K = K := by rfl)
    (hbase : attributeBase o name X.env (eval o X.env) = eval o X.env := by rfl) (hline : (apos.endLine == cpos.line) = true := by rfl) : PE X (.Call (.Attribute o name apos) [] [] cpos) (tBM0 K T r te) := hK ▸ pe_bm0 pa slot hty hm ho hbase hline
/-- sep.join(xs) -/
def rJoin (K : PySem.W.Frag) : V → List V → Hp → VK → Prop := fun x xs H Q => ∃ a p, ∃ ys : List Str, x = .str a ∧ xs = [.ref p] ∧ (SqL K H p (ys.map V.str) ∨ SqT K H p (ys.map V.str)) ∧ (ys.map (·.length)).sum + ys.length * a.length ≤ 16777216 ∧ Q (.str (Txt.join a ys)) H
theorem kJoin (ho : PE X o ta) (he : PE X e te) (hK : X.K = K := by rfl) (hs : starEach [e] X.env = [(false, eval e X.env)] := by rfl) (hbase : attributeBase o "join" X.env (eval o X.env) = eval o X.env := by rfl) (hline : (apos.endLine == pos.line) = true := by rfl) :
    PE X (.Call (.Attribute o "join" apos) [e] [] pos) (tM1 (rJoin K) ta te) := hK ▸ pe_join ho he hs hbase hline
theorem kLenSet (hc : X.calm = true) (hg : Gl X "len") (hm : X.mg "len" = none) (hg2 : Gl X "set") (hm2 : X.mg "set" = none) (ha : PE X a ta) (hK : X.K = K := by rfl)
    (na : starEach [a] X.env = (false, eval a X.env) :: starEach [] X.env := by rfl) : PE X (.Call (.Name "len" p) [.Call (.Name "set" p2) [a] [] q] [] pos) (tLenSetT K ta) := hK ▸ pe_lenSetT hc hg hm hg2 hm2 ha na
theorem kSeq {tg : Expr} (hl : PE X l tl) (hK : X.K = K := by rfl) : PI X tg l (fun σ H R => iList K tl σ H R ∨ iTup K tl σ H R ∨ iStr tl σ H R) := hK ▸ uSeq hl
theorem kEnum (hg : Gl X "enumerate") (hm : X.mg "enumerate" = none) (ha : PA X [e] tr) (hK : X.K = K := by rfl) (hs : starEach [e] X.env = [(false, eval e X.env)] := by rfl) :
    PI X (.Tuple elts kk tpos) (.Call (.Name "enumerate" p) [e] [] pos) (fun σ H R => iEnum K tr σ H R ∨ iEnumT K tr σ H R) := hK ▸ uEnum hg hm ha hs
theorem kZip (hg : Gl X "zip") (hm : X.mg "zip" = none) (ha : PA X [e, e2] tr) (hK : X.K = K := by rfl)
    (hs : starEach [e, e2] X.env = (false, eval e X.env) :: starEach [e2] X.env := by rfl) (hpl : (backTo pos (starEach [e2] X.env)).any (·.1) = false := by rfl) :
    PI X (.Tuple elts kk tpos) (.Call (.Name "zip" p) [e, e2] [] pos) (fun σ H R => iZip K tr σ H R ∨ iZipT K tr σ H R) := hK ▸ uZip hg hm ha hs hpl
theorem kTup {gs : TGs} {n : Nat} (hc : X.calm = true) (h : PGs X es gs) (hK : X.K = K := by rfl)
    (hn : (assignEach es X.env).length = n := by rfl) (hst : (assignEach es X.env).findIdx? (·.1) = none := by rfl) : PG X (.Tuple es kk pos) (gTup K n gs) := hK ▸ pg_tup hc h hn hst
theorem kStar {e1 : Expr} {ga gb : TG} {sp : Pos} (hc : X.calm = true) (ha : PG X e1 ga) (hb : PG X e2 gb) (hK : X.K = K := by rfl)
    (he : assignEach [e1, .Starred e2 sp] X.env = [(false, assign e1 X.env), (true, assign e2 X.env)] := by rfl) : PG X (.Tuple [e1, .Starred e2 sp] kk pos) (gStar2 K ga gb) := hK ▸ pg_star2 hc ha hb he
theorem kGfld {f : Str} (ha : PE X o ta) (hK : X.K = K := by rfl) : PG X (.Attribute o f pos) (gFld K ta f) := hK ▸ pg_fld ha
end
end Ld

set_option Elab.async false
set_option linter.all false
set_option maxRecDepth 100000
set_option maxHeartbeats 2000000
/-! Lib, part K: names, words, forms, rules as questions about data. -/
namespace Ld
open PySem PySem.Spec PyProof.Rows L2

def isWholeD : PyData → Bool
  | .int _ => true
  | _ => false
def lettersS : Str := "abcdefghijklmnopqrstuvwxyz"
def isNameS (z : Str) : Bool := decide (1 ≤ z.length) && decide (z.length ≤ 8) && z.cps.toList.all fun c => decide (c ∈ lettersS.cps.toList)
def isNameD : PyData → Bool
  | .str z => isNameS z
  | _ => false
def isWordD (ws : List Str) : PyData → Bool
  | .str z => ws.any fun y => y == z
  | _ => false
/-- desks -/
def strsOf : List PyData → List Str
  | [] => []
  | .str z :: r => z :: strsOf r
  | _ :: r => strsOf r
def areDesksD : PyData → Bool
  | .tuple ds => decide (1 ≤ ds.length) && decide (ds.length ≤ 4) && ds.all isNameD && decide (strsOf ds).Nodup
  | _ => false
/-- a name's length fits where one looks at it -/
def fitsD : PyData → Prop
  | .str z => z.length ≤ sizeLine
  | _ => True
/-- a question about one value -/
def spIs (K : PySem.W.Frag) (ok : PyData → Prop) (g : PyData → Bool) : Sp := fun vs H Q _ => ∃ v d, vs = [v] ∧ Dp K H v d ∧ ok d ∧ ∀ H', Same H H' → Q (.bl (g d)) H'
theorem spIs_len {K : PySem.W.Frag} {ok : PyData → Prop} {g : PyData → Bool} : ∀ vs H Q E, spIs K ok g vs H Q E → vs.length = 1 := by
  rintro _ _ _ _ ⟨_, _, rfl, _⟩
  rfl
/-- a question about a value and a tuple of texts -/
def spWord (K : PySem.W.Frag) : Sp := fun vs H Q _ => ∃ v d a ws, vs = [v, .ref a] ∧ Dp K H v d ∧ SqT K H a (List.map V.str ws) ∧ Q (.bl (isWordD ws d)) H
theorem inV_strs (z : Str) : ∀ ws : List Str, inV (.str z) (ws.map V.str) = ws.any fun y => y == z
  | [] => rfl
  | y :: ws => by
    have ih := inV_strs z ws
    unfold inV at ih ⊢
    rw [List.map_cons, List.any_cons, List.any_cons, ih]
    rfl
theorem flat_all (ws : List Str) : (ws.map V.str).all flatV = true := by
  rw [List.all_map]
  exact List.all_eq_true.mpr fun _ _ => rfl

theorem isD_str (d : PyData) : (∃ z, d = .str z) ∨ isD "str" d = false := by
  cases d <;> first | exact .inl ⟨_, rfl⟩ | exact .inr (by simp [isD, tyD])
theorem isD_tuple (d : PyData) : (∃ z, d = .tuple z) ∨ isD "tuple" d = false := by
  cases d <;> first | exact .inl ⟨_, rfl⟩ | exact .inr (by simp [isD, tyD])
theorem isD_list (d : PyData) : (∃ z, d = .list z) ∨ isD "list" d = false := by
  cases d <;> first | exact .inl ⟨_, rfl⟩ | exact .inr (by simp [isD, tyD])
theorem isD_bool (d : PyData) : (∃ z, d = .bool z) ∨ isD "bool" d = false := by
  cases d <;> first | exact .inl ⟨_, rfl⟩ | exact .inr (by simp [isD, tyD])
theorem isD_int (d : PyData) : (∃ z, d = .int z) ∨ (∃ z, d = .bool z) ∨ isD "int" d = false := by
  cases d <;> first | exact .inl ⟨_, rfl⟩ | exact .inr (.inl ⟨_, rfl⟩) | exact .inr (.inr (by simp [isD, tyD]))
theorem isD_str_t (z : Str) : isD "str" (.str z) = true := by
  simp [isD, tyD]
theorem isD_tuple_t (z : List PyData) : isD "tuple" (.tuple z) = true := by
  simp [isD, tyD]
theorem isD_list_t (z : List PyData) : isD "list" (.list z) = true := by
  simp [isD, tyD]
theorem isD_bool_t (z : Bool) : isD "bool" (.bool z) = true := by
  simp [isD, tyD]
theorem isD_int_t (z : Int) : isD "int" (.int z) = true := by
  simp [isD, tyD]
theorem isD_int_b (z : Bool) : isD "int" (.bool z) = true := by
  simp [isD, tyD]
theorem isD_bool_i (z : Int) : isD "bool" (.int z) = false := by
  simp [isD, tyD]

/-! ### loops over what stands there, by an invariant -/
section
variable {K : PySem.W.Frag} {tl : TE} {g : TG} {tb : TS} {D : Ends} {σ : L2.St} {H : Hp} {a : Addr} {xs : List V}
theorem forL (ht : ∀ Q : VK, Q (.ref a) H → tl σ H Q) (hs : SqL K H a xs) (Pv : Nat → L2.St → Hp → Prop) (h0 : Pv 0 σ H) (hG : ∀ i σ H, i ≤ xs.length → Pv i σ H → SqL K H a xs)
    (step : ∀ i x σ H, xs[i]? = some x → Pv i σ H → g x σ H fun σ2 H2 => tb { D with nx := Pv (i + 1), ct := Pv (i + 1), bk := D.nx } σ2 H2) (hd : ∀ σ H, Pv xs.length σ H → D.nx σ H) :
    tFor (fun σ H R => iList K tl σ H R ∨ iTup K tl σ H R ∨ iStr tl σ H R) g tb D σ H :=
  .inl (ht _ ⟨a, rfl, ⟨xs, hs⟩, for_it walk_list Pv h0 hG (fun i x σ H H' _ p y => by
    obtain ⟨rfl, e⟩ := y
    exact step i x σ _ e p) hd⟩)
theorem forT (ht : ∀ Q : VK, Q (.ref a) H → tl σ H Q) (hs : SqT K H a xs) (Pv : Nat → L2.St → Hp → Prop) (h0 : Pv 0 σ H) (hG : ∀ i σ H, i ≤ xs.length → Pv i σ H → SqT K H a xs)
    (step : ∀ i x σ H, xs[i]? = some x → Pv i σ H → g x σ H fun σ2 H2 => tb { D with nx := Pv (i + 1), ct := Pv (i + 1), bk := D.nx } σ2 H2) (hd : ∀ σ H, Pv xs.length σ H → D.nx σ H) :
    tFor (fun σ H R => iList K tl σ H R ∨ iTup K tl σ H R ∨ iStr tl σ H R) g tb D σ H :=
  .inr (.inl (ht _ ⟨a, rfl, ⟨xs, hs⟩, for_it walk_tup Pv h0 hG (fun i x σ H H' _ p y => by
    obtain ⟨rfl, e⟩ := y
    exact step i x σ _ e p) hd⟩))
/-- enumerate of a tuple: the pair is laid at a new place each turn -/
theorem forEt {ta : TA} (ht : ∀ Q : List V → Hp → Prop, Q [.ref a] H → ta σ H Q) (hs : SqT K H a xs) (Pv : Nat → L2.St → Hp → Prop) (h0 : Pv 0 σ H) (hG : ∀ i σ H, i ≤ xs.length → Pv i σ H → SqT K H a xs)
    (step : ∀ i x σ H T, xs[i]? = some x → Pv i σ H → H T = none → g (.ref T) σ (upd H T (.tup [.int (i : Nat), x])) fun σ2 H2 => tb { D with nx := Pv (i + 1), ct := Pv (i + 1), bk := D.nx } σ2 H2) (hd : ∀ σ H, Pv xs.length σ H → D.nx σ H) :
    tFor (fun σ H R => iEnum K ta σ H R ∨ iEnumT K ta σ H R) g tb D σ H :=
  .inr (ht _ ⟨a, xs, rfl, hs, for_it walkEt Pv h0 hG (fun i x σ H H' _ p y => by
    obtain ⟨T, u, v, rfl, n, rfl, e1, e2⟩ := y
    cases e1
    exact step i v σ H T e2 p n) hd⟩)
theorem forEl {ta : TA} (ht : ∀ Q : List V → Hp → Prop, Q [.ref a] H → ta σ H Q) (hs : SqL K H a xs) (Pv : Nat → L2.St → Hp → Prop) (h0 : Pv 0 σ H) (hG : ∀ i σ H, i ≤ xs.length → Pv i σ H → SqL K H a xs)
    (step : ∀ i x σ H T, xs[i]? = some x → Pv i σ H → H T = none → g (.ref T) σ (upd H T (.tup [.int (i : Nat), x])) fun σ2 H2 => tb { D with nx := Pv (i + 1), ct := Pv (i + 1), bk := D.nx } σ2 H2) (hd : ∀ σ H, Pv xs.length σ H → D.nx σ H) :
    tFor (fun σ H R => iEnum K ta σ H R ∨ iEnumT K ta σ H R) g tb D σ H :=
  .inl (ht _ ⟨a, xs, rfl, hs, for_it walk_enum Pv h0 hG (fun i x σ H H' _ p y => by
    obtain ⟨T, u, v, rfl, n, rfl, e1, e2⟩ := y
    cases e1
    exact step i v σ H T e2 p n) hd⟩)
end

/-! ### comprehensions, by an invariant -/
section
variable {K : PySem.W.Frag} {tl : TE} {ta : TA} {g : TG} {tt : TT} {te : TE} {vs : List Nat} {σ : L2.St} {H : Hp} {Q : VK} {a : Addr} {xs : List V}
/-- one turn of a comprehension whose list is made at D -/
def lcTurn (g : TG) (tt : TT) (te : TE) (vs : List Nat) (σ : L2.St) (D : Addr) (N : Hp → Prop) (x : V) (H : Hp) : Prop :=
  g x (wipe σ vs) H fun σ2 H2 => wipe σ2 vs = wipe σ vs ∧ tt σ2 H2 fun b H3 => if b = true then te σ2 H3 fun y H4 => ∃ acc, H4 D = some (.lst acc) ∧ acc.length < sizeLine ∧ N (upd H4 D (.lst (acc ++ [y]))) else N H3
/-- a comprehension, its iterator come -/
def LcIn (J : It) (g : TG) (tt : TT) (te : TE) (vs : List Nat) (σ : L2.St) (Q : VK) (H1 : Hp) : Prop := ∀ D, H1 D = none → ∃ W : Nat → Nat → Hp → Prop, (∃ m, W 0 m (upd H1 D (.lst []))) ∧ ∀ i m H, W i m H →
  (J.stop i H ∧ Q (.ref D) H) ∨ (J.go i H ∧ ∃ Nx : Hp → Prop, (∀ H', Nx H' → ∃ m', m' < m ∧ W (i + 1) m' H') ∧ ∀ x H', J.yld i H x H' → g x (wipe σ vs) H' fun σ2 H2 => wipe σ2 vs = wipe σ vs ∧ tt σ2 H2 fun b H3 =>
    if b = true then te σ2 H3 fun y H4 => ∃ acc, H4 D = some (.lst acc) ∧ acc.length < sizeLine ∧ Nx (upd H4 D (.lst (acc ++ [y]))) else Nx H3)
theorem tLc_of {wi : TI} (h : wi σ H fun J H1 => LcIn J g tt te vs σ Q H1) : tLc wi g tt te vs σ H Q := h
theorem lcAnyIn {J : It} {n : Nat} {G : Hp → Prop} {Y : Nat → Hp → V → Hp → Prop} (w : Walk J n G Y) (Pv : Addr → Nat → Hp → Prop) (h0 : ∀ D, H D = none → Pv D 0 (upd H D (.lst []))) (hG : ∀ D i H, i ≤ n → Pv D i H → G H)
    (step : ∀ D, H D = none → ∀ i x H1 H', i < n → Pv D i H1 → Y i H1 x H' → lcTurn g tt te vs σ D (Pv D (i + 1)) x H') (hd : ∀ D, H D = none → ∀ H', Pv D n H' → Q (.ref D) H') : LcIn J g tt te vs σ Q H :=
  fun D nD => lc_it w (Pv D) (h0 D nD) (hG D) (step D nD) (hd D nD)
theorem lcAny {J : It} {n : Nat} {G : Hp → Prop} {Y : Nat → Hp → V → Hp → Prop} (w : Walk J n G Y) {wi : TI} (hw : ∀ R : It → Hp → Prop, R J H → wi σ H R) (Pv : Addr → Nat → Hp → Prop) (h0 : ∀ D, H D = none → Pv D 0 (upd H D (.lst []))) (hG : ∀ D i H, i ≤ n → Pv D i H → G H)
    (step : ∀ D, H D = none → ∀ i x H1 H', i < n → Pv D i H1 → Y i H1 x H' → lcTurn g tt te vs σ D (Pv D (i + 1)) x H') (hd : ∀ D, H D = none → ∀ H', Pv D n H' → Q (.ref D) H') : tLc wi g tt te vs σ H Q :=
  hw _ fun D nD => lc_it w (Pv D) (h0 D nD) (hG D) (step D nD) (hd D nD)
theorem lcL (ht : ∀ Q : VK, Q (.ref a) H → tl σ H Q) (hs : SqL K H a xs) (Pv : Addr → Nat → Hp → Prop) (h0 : ∀ D, H D = none → Pv D 0 (upd H D (.lst []))) (hG : ∀ D i H, i ≤ xs.length → Pv D i H → SqL K H a xs)
    (step : ∀ D, H D = none → ∀ i x H', xs[i]? = some x → Pv D i H' → lcTurn g tt te vs σ D (Pv D (i + 1)) x H') (hd : ∀ D, H D = none → ∀ H', Pv D xs.length H' → Q (.ref D) H') :
    tLc (fun σ H R => iList K tl σ H R ∨ iTup K tl σ H R ∨ iStr tl σ H R) g tt te vs σ H Q :=
  lcAny walk_list (fun R r => .inl (ht _ ⟨a, rfl, ⟨xs, hs⟩, r⟩)) Pv h0 hG (fun D nD i x H1 H' _ p y => by
    obtain ⟨rfl, e⟩ := y
    exact step D nD i x _ e p) hd
theorem lcT (ht : ∀ Q : VK, Q (.ref a) H → tl σ H Q) (hs : SqT K H a xs) (Pv : Addr → Nat → Hp → Prop) (h0 : ∀ D, H D = none → Pv D 0 (upd H D (.lst []))) (hG : ∀ D i H, i ≤ xs.length → Pv D i H → SqT K H a xs)
    (step : ∀ D, H D = none → ∀ i x H', xs[i]? = some x → Pv D i H' → lcTurn g tt te vs σ D (Pv D (i + 1)) x H') (hd : ∀ D, H D = none → ∀ H', Pv D xs.length H' → Q (.ref D) H') :
    tLc (fun σ H R => iList K tl σ H R ∨ iTup K tl σ H R ∨ iStr tl σ H R) g tt te vs σ H Q :=
  lcAny walk_tup (fun R r => .inr (.inl (ht _ ⟨a, rfl, ⟨xs, hs⟩, r⟩))) Pv h0 hG (fun D nD i x H1 H' _ p y => by
    obtain ⟨rfl, e⟩ := y
    exact step D nD i x _ e p) hd
theorem lcS {z : Str} (ht : ∀ Q : VK, Q (.str z) H → tl σ H Q) (Pv : Addr → Nat → Hp → Prop) (h0 : ∀ D, H D = none → Pv D 0 (upd H D (.lst [])))
    (step : ∀ D, H D = none → ∀ i c H', z.cps[i]? = some c → Pv D i H' → lcTurn g tt te vs σ D (Pv D (i + 1)) (.str ⟨#[c]⟩) H') (hd : ∀ D, H D = none → ∀ H', Pv D z.cps.size H' → Q (.ref D) H') :
    tLc (fun σ H R => iList K tl σ H R ∨ iTup K tl σ H R ∨ iStr tl σ H R) g tt te vs σ H Q :=
  lcAny walk_str (fun R r => .inr (.inr (ht _ ⟨z, rfl, r⟩))) Pv h0 (fun _ _ _ _ _ => trivial) (fun D nD i x H1 H' _ p y => by
    obtain ⟨rfl, c, e, rfl⟩ := y
    exact step D nD i c _ e p) hd
theorem lcR {n : Nat} (ht : ∀ Q : List V → Hp → Prop, Q [.int (n : Int)] H → ta σ H Q) (hz : (n : Int) < 2 ^ 62) (Pv : Addr → Nat → Hp → Prop) (h0 : ∀ D, H D = none → Pv D 0 (upd H D (.lst [])))
    (step : ∀ D, H D = none → ∀ i H', i < n → Pv D i H' → lcTurn g tt te vs σ D (Pv D (i + 1)) (.int (i : Nat)) H') (hd : ∀ D, H D = none → ∀ H', Pv D n H' → Q (.ref D) H') :
    tLc (iRng1 ta) g tt te vs σ H Q :=
  lcAny (walk_range (lo := 0) (n := n)) (fun R r => ht _ ⟨(n : Int), rfl, by omega, hz, by rw [Int.toNat_natCast]; exact r⟩) Pv h0 (fun _ _ _ _ _ => trivial) (fun D nD i x H1 H' hi p y => by
    obtain ⟨rfl, rfl⟩ := y
    show lcTurn g tt te vs σ D (Pv D (i + 1)) (.int (0 + (i : Int))) _
    rw [Int.zero_add]
    exact step D nD i _ hi p) hd
/-- a tuple and a list side by side -/
theorem lcZt {b : Addr} {ys : List V} {n : Nat} (hn : n = min xs.length ys.length) (ht : ∀ Q : List V → Hp → Prop, Q [.ref a, .ref b] H → ta σ H Q) (hs : SqT K H a xs ∧ SqL K H b ys) (Pv : Addr → Nat → Hp → Prop) (h0 : ∀ D, H D = none → Pv D 0 (upd H D (.lst [])))
    (hG : ∀ D i H, i ≤ n → Pv D i H → SqT K H a xs ∧ SqL K H b ys)
    (step : ∀ D, H D = none → ∀ i x y H' T, xs[i]? = some x → ys[i]? = some y → Pv D i H' → H' T = none → lcTurn g tt te vs σ D (Pv D (i + 1)) (.ref T) (upd H' T (.tup [x, y]))) (hd : ∀ D, H D = none → ∀ H', Pv D n H' → Q (.ref D) H') :
    tLc (fun σ H R => iZip K ta σ H R ∨ iZipT K ta σ H R) g tt te vs σ H Q :=
  lcAny (walkZt hn) (fun R r => .inr (ht _ ⟨a, b, xs, ys, rfl, hs.1, hs.2, r⟩)) Pv h0 hG (fun D nD i x H1 H' _ p y => by
    obtain ⟨T, u, v, rfl, n, rfl, e1, e2⟩ := y
    exact step D nD i u v H1 T e1 e2 p n) hd
end

/-! ### what stands but for some places -/
/-- all that was tracked but at p is as it was -/
def Keep (p : Addr → Prop) (H H' : Hp) : Prop := ∀ b o, ¬ p b → H b = some o → H' b = some o
theorem Keep.refl {p : Addr → Prop} (H : Hp) : Keep p H H := fun _ _ _ e => e
theorem Keep.trans {p : Addr → Prop} {H H1 H2 : Hp} (a : Keep p H H1) (b : Keep p H1 H2) : Keep p H H2 := fun c o n e => b c o n (a c o n e)
theorem Keep.of {p : Addr → Prop} {H H' : Hp} (s : Same H H') : Keep p H H' := fun b o _ e => s b o e
theorem Keep.same {H H' : Hp} (k : Keep (fun _ => False) H H') : Same H H' := fun b o e => k b o id e
theorem Keep.new {p : Addr → Prop} {H H' : Hp} {D : Addr} {o : HO} (k : Keep p H H') (n : H D = none) : Keep p H (upd H' D o) := fun b u nb e => by
  rw [upd_ne (ne_of_none e n)]
  exact k b u nb e
theorem Same.new {H H' : Hp} {D : Addr} {o : HO} (k : Same H H') (n : H D = none) : Same H (upd H' D o) := fun b u e => by
  rw [upd_ne (ne_of_none e n)]
  exact k b u e
section
variable {K : PySem.W.Frag} {tl : TE} {ta : TA} {g : TG} {te : TE} {vs : List Nat} {σ : L2.St} {H : Hp} {Q : VK} {a : Addr} {xs : List V} {p : Addr → Prop} {Iv : Hp → Prop} {Rl : Addr → Nat → V → Hp → Prop}
/-- what a comprehension without tests asks, told turn by turn: the list is made at D; Iv stands throughout; each item made is so as Rl says, whatever else is done at p and at D -/
structure LcAsk (p : Addr → Prop) (H : Hp) (Iv : Hp → Prop) (Rl : Addr → Nat → V → Hp → Prop) : Prop where
  at_ : ∀ b, p b → H b ≠ none
  ini : Iv H
  lay : ∀ H' D o, H D = none → Iv H' → Iv (upd H' D o)
  st : ∀ D acc i y H1 H2, H D = none → H1 D = some (.lst acc) → Keep (fun b => p b ∨ b = D) H1 H2 → Rl D i y H1 → Rl D i y H2
theorem lcRelIn {J : It} {n : Nat} {G : Hp → Prop} {Y : Nat → Hp → V → Hp → Prop} (w : Walk J n G Y) (few : n < sizeLine) (L : LcAsk p H Iv Rl) (hG : ∀ H', Keep p H H' → Iv H' → G H')
    (yk : ∀ i x H1 H', Keep p H H1 → Iv H1 → Y i H1 x H' → Keep p H1 H' ∧ Iv H')
    (step : ∀ D acc i x H1 H' (N : VK), i < n → H D = none → H' D = some (.lst acc) → Keep p H H' → Iv H' → Y i H1 x H' → (∀ y H4, Keep p H' H4 → Iv H4 → Rl D i y H4 → N y H4) → g x (wipe σ vs) H' fun σ2 H2 => wipe σ2 vs = wipe σ vs ∧ te σ2 H2 N)
    (hd : ∀ D H' ys, H D = none → Keep p H H' → Iv H' → H' D = some (.lst ys) → ys.length = n → (∀ i y, ys[i]? = some y → Rl D i y H') → Q (.ref D) H') : LcIn J g tYes te vs σ Q H := by
  refine lcAnyIn w (fun D i H' => Keep p H H' ∧ Iv H' ∧ ∃ ys, H' D = some (.lst ys) ∧ ys.length = i ∧ ∀ j y, ys[j]? = some y → Rl D j y H') (fun D nD => ⟨(Keep.refl H).new nD, L.lay _ _ _ nD L.ini, [], upd_same, rfl, fun j y e => by simp at e⟩) (fun D i H' _ q => hG H' q.1 q.2.1) ?_ ?_
  · rintro D nD i x H1 H' hi ⟨k1, i1, ys, e1, l1, r1⟩ y
    obtain ⟨k2, i2⟩ := yk i x H1 H' k1 i1 y
    have pD : ¬ p D := fun z => L.at_ D z nD
    have e2 : H' D = some (.lst ys) := k2 D _ pD e1
    refine step D ys i x H1 H' (fun y H4 => ∃ acc, H4 D = some (.lst acc) ∧ acc.length < sizeLine ∧ (Keep p H (upd H4 D (.lst (acc ++ [y]))) ∧ Iv (upd H4 D (.lst (acc ++ [y]))) ∧ ∃ ys, upd H4 D (.lst (acc ++ [y])) D = some (.lst ys) ∧ ys.length = i + 1 ∧ ∀ j z, ys[j]? = some z → Rl D j z (upd H4 D (.lst (acc ++ [y]))))) hi nD e2 (k1.trans k2) i2 y fun v H4 k4 i4 r4 => ?_
    have e4 : H4 D = some (.lst ys) := k4 D _ pD e2
    have kD : Keep (fun b => p b ∨ b = D) H4 (upd H4 D (.lst (ys ++ [v]))) := fun b o nb e => by
      rw [upd_ne fun z => nb (.inr z)]
      exact e
    have kH : Keep (fun b => p b ∨ b = D) H1 H4 := fun b o nb e => k4 b o (fun z => nb (.inl z)) (k2 b o (fun z => nb (.inl z)) e)
    refine ⟨ys, e4, by omega, ((k1.trans k2).trans k4).new nD, L.lay _ _ _ nD i4, ys ++ [v], upd_same, by simp [l1], fun j z e => ?_⟩
    by_cases hj : j < ys.length
    · rw [List.getElem?_append_left hj] at e
      exact L.st D ys j z H1 _ nD e1 (kH.trans kD) (r1 j z e)
    · have hj' : j = ys.length := by
        have := (List.getElem?_eq_some_iff.mp e).1
        simp at this
        omega
      subst hj'
      simp at e
      subst e
      rw [l1]
      exact L.st D ys i _ H4 _ nD e4 kD r4
  · rintro D nD H' ⟨k1, i1, ys, e1, l1, r1⟩
    exact hd D H' ys nD k1 i1 e1 l1 r1
theorem lcRel {J : It} {n : Nat} {G : Hp → Prop} {Y : Nat → Hp → V → Hp → Prop} (w : Walk J n G Y) {wi : TI} (hw : ∀ R : It → Hp → Prop, R J H → wi σ H R) (few : n < sizeLine) (L : LcAsk p H Iv Rl) (hG : ∀ H', Keep p H H' → Iv H' → G H')
    (yk : ∀ i x H1 H', Keep p H H1 → Iv H1 → Y i H1 x H' → Keep p H1 H' ∧ Iv H')
    (step : ∀ D acc i x H1 H' (N : VK), i < n → H D = none → H' D = some (.lst acc) → Keep p H H' → Iv H' → Y i H1 x H' → (∀ y H4, Keep p H' H4 → Iv H4 → Rl D i y H4 → N y H4) → g x (wipe σ vs) H' fun σ2 H2 => wipe σ2 vs = wipe σ vs ∧ te σ2 H2 N)
    (hd : ∀ D H' ys, H D = none → Keep p H H' → Iv H' → H' D = some (.lst ys) → ys.length = n → (∀ i y, ys[i]? = some y → Rl D i y H') → Q (.ref D) H') : tLc wi g tYes te vs σ H Q := hw _ (lcRelIn w few L hG yk step hd)
theorem lcRelL (ht : ∀ Q : VK, Q (.ref a) H → tl σ H Q) (L : LcAsk p H Iv Rl) (few : xs.length < sizeLine) (hs : ∀ H', Keep p H H' → Iv H' → SqL K H' a xs)
    (step : ∀ D acc i x H' (N : VK), xs[i]? = some x → H D = none → H' D = some (.lst acc) → Keep p H H' → Iv H' → (∀ y H4, Keep p H' H4 → Iv H4 → Rl D i y H4 → N y H4) → g x (wipe σ vs) H' fun σ2 H2 => wipe σ2 vs = wipe σ vs ∧ te σ2 H2 N)
    (hd : ∀ D H' ys, H D = none → Keep p H H' → Iv H' → H' D = some (.lst ys) → ys.length = xs.length → (∀ i y, ys[i]? = some y → Rl D i y H') → Q (.ref D) H') :
    tLc (fun σ H R => iList K tl σ H R ∨ iTup K tl σ H R ∨ iStr tl σ H R) g tYes te vs σ H Q :=
  lcRel walk_list (fun R r => .inl (ht _ ⟨a, rfl, ⟨xs, hs H (Keep.refl H) L.ini⟩, r⟩)) few L hs (fun i x H1 H' k v y => by
    obtain ⟨rfl, e⟩ := y
    exact ⟨Keep.refl _, v⟩) (fun D acc i x H1 H' N hi nD e k v y q => by
    obtain ⟨rfl, e'⟩ := y
    exact step D acc i x _ N e' nD e k v q) hd
theorem lcRelT (ht : ∀ Q : VK, Q (.ref a) H → tl σ H Q) (L : LcAsk p H Iv Rl) (few : xs.length < sizeLine) (hs : ∀ H', Keep p H H' → Iv H' → SqT K H' a xs)
    (step : ∀ D acc i x H' (N : VK), xs[i]? = some x → H D = none → H' D = some (.lst acc) → Keep p H H' → Iv H' → (∀ y H4, Keep p H' H4 → Iv H4 → Rl D i y H4 → N y H4) → g x (wipe σ vs) H' fun σ2 H2 => wipe σ2 vs = wipe σ vs ∧ te σ2 H2 N)
    (hd : ∀ D H' ys, H D = none → Keep p H H' → Iv H' → H' D = some (.lst ys) → ys.length = xs.length → (∀ i y, ys[i]? = some y → Rl D i y H') → Q (.ref D) H') :
    tLc (fun σ H R => iList K tl σ H R ∨ iTup K tl σ H R ∨ iStr tl σ H R) g tYes te vs σ H Q :=
  lcRel walk_tup (fun R r => .inr (.inl (ht _ ⟨a, rfl, ⟨xs, hs H (Keep.refl H) L.ini⟩, r⟩))) few L hs (fun i x H1 H' k v y => by
    obtain ⟨rfl, e⟩ := y
    exact ⟨Keep.refl _, v⟩) (fun D acc i x H1 H' N hi nD e k v y q => by
    obtain ⟨rfl, e'⟩ := y
    exact step D acc i x _ N e' nD e k v q) hd
theorem lcRelS {z : Str} (ht : ∀ Q : VK, Q (.str z) H → tl σ H Q) (L : LcAsk p H Iv Rl) (few : z.cps.size < sizeLine)
    (step : ∀ D acc i c H' (N : VK), z.cps[i]? = some c → H D = none → H' D = some (.lst acc) → Keep p H H' → Iv H' → (∀ y H4, Keep p H' H4 → Iv H4 → Rl D i y H4 → N y H4) → g (.str ⟨#[c]⟩) (wipe σ vs) H' fun σ2 H2 => wipe σ2 vs = wipe σ vs ∧ te σ2 H2 N)
    (hd : ∀ D H' ys, H D = none → Keep p H H' → Iv H' → H' D = some (.lst ys) → ys.length = z.cps.size → (∀ i y, ys[i]? = some y → Rl D i y H') → Q (.ref D) H') :
    tLc (fun σ H R => iList K tl σ H R ∨ iTup K tl σ H R ∨ iStr tl σ H R) g tYes te vs σ H Q :=
  lcRel walk_str (fun R r => .inr (.inr (ht _ ⟨z, rfl, r⟩))) few L (fun _ _ _ => trivial) (fun i x H1 H' k v y => by
    obtain ⟨rfl, e⟩ := y
    exact ⟨Keep.refl _, v⟩) (fun D acc i x H1 H' N hi nD e k v y q => by
    obtain ⟨rfl, c, e', rfl⟩ := y
    exact step D acc i c _ N e' nD e k v q) hd
theorem lcRelR {n : Nat} (ht : ∀ Q : List V → Hp → Prop, Q [.int (n : Int)] H → ta σ H Q) (L : LcAsk p H Iv Rl) (few : n < sizeLine)
    (step : ∀ D acc i H' (N : VK), i < n → H D = none → H' D = some (.lst acc) → Keep p H H' → Iv H' → (∀ y H4, Keep p H' H4 → Iv H4 → Rl D i y H4 → N y H4) → g (.int (i : Nat)) (wipe σ vs) H' fun σ2 H2 => wipe σ2 vs = wipe σ vs ∧ te σ2 H2 N)
    (hd : ∀ D H' ys, H D = none → Keep p H H' → Iv H' → H' D = some (.lst ys) → ys.length = n → (∀ i y, ys[i]? = some y → Rl D i y H') → Q (.ref D) H') :
    tLc (iRng1 ta) g tYes te vs σ H Q :=
  lcRel (walk_range (lo := 0) (n := n)) (fun R r => ht _ ⟨(n : Int), rfl, by omega, by rw [sizeLine_eq] at few; omega, by rw [Int.toNat_natCast]; exact r⟩) few L (fun _ _ _ => trivial) (fun i x H1 H' k v y => by
    obtain ⟨rfl, e⟩ := y
    exact ⟨Keep.refl _, v⟩) (fun D acc i x H1 H' N hi nD e k v y q => by
    obtain ⟨rfl, rfl⟩ := y
    show g (.int (0 + (i : Int))) _ _ _
    rw [Int.zero_add]
    exact step D acc i _ N hi nD e k v q) hd
theorem lcAsk0 (st : ∀ D acc i y H1 H2, H D = none → H1 D = some (.lst acc) → Keep (fun b => False ∨ b = D) H1 H2 → Rl D i y H1 → Rl D i y H2) : LcAsk (fun _ => False) H (fun _ => True) Rl := ⟨fun _ z => z.elim, trivial, fun _ _ _ _ _ => trivial, st⟩
/-- a tuple and a list side by side, where nothing changes -/
theorem lcRelZt {b : Addr} {ys : List V} {n : Nat} (hn : n = min xs.length ys.length) (L : LcAsk (fun _ => False) H (fun _ => True) Rl) (few : n < sizeLine) (hs : ∀ H', Same H H' → SqT K H' a xs ∧ SqL K H' b ys)
    (step : ∀ D acc i x y H' T (N : VK), xs[i]? = some x → ys[i]? = some y → H D = none → H' D = some (.lst acc) → Same H H' → H' T = some (.tup [x, y]) → (∀ v H4, Same H' H4 → Rl D i v H4 → N v H4) → g (.ref T) (wipe σ vs) H' fun σ2 H2 => wipe σ2 vs = wipe σ vs ∧ te σ2 H2 N)
    (hd : ∀ D H' zs, H D = none → Same H H' → H' D = some (.lst zs) → zs.length = n → (∀ i y, zs[i]? = some y → Rl D i y H') → Q (.ref D) H') :
    LcIn (ItZt K a b) g tYes te vs σ Q H :=
  lcRelIn (walkZt hn) few L (fun H' k _ => hs H' k.same) (fun i x H1 H' k _ y => by
    obtain ⟨T, u, v, rfl, n, rfl, e1, e2⟩ := y
    exact ⟨(Keep.refl H1).new n, trivial⟩) (fun D acc i x H1 H' N hi nD e k _ y q => by
    obtain ⟨T, u, v, rfl, n, rfl, e1, e2⟩ := y
    exact step D acc i u v _ T N e1 e2 nD e k.same upd_same fun w H4 s r => q w H4 (Keep.of s) trivial r) (fun D H' zs nD k _ e l r => hd D H' zs nD k.same e l r)
end
/-- a relation that looks at no place -/
theorem lcAskP {H : Hp} {f : Nat → V} : LcAsk (fun _ => False) H (fun _ => True) (fun _ i y _ => y = f i) := lcAsk0 fun _ _ _ _ _ _ _ _ _ e => e

theorem list_of_at {α : Type} {ys : List α} {n : Nat} {f : Nat → α} (l : ys.length = n) (r : ∀ i y, ys[i]? = some y → y = f i) : ys = (List.range n).map f := by
  refine List.ext_getElem (by simp [l]) fun i h1 h2 => ?_
  rw [List.getElem_map, List.getElem_range]
  exact r i _ (List.getElem?_eq_getElem h1)
theorem rAll_of {K : PySem.W.Frag} {H : Hp} {D : Addr} {ys : List V} {n : Nat} {b : Nat → Bool} {Q : VK} (e : H D = some (.lst ys)) (l : ys.length = n) (r : ∀ i y, ys[i]? = some y → y = V.bl (b i)) (q : Q (.bl ((List.range n).all b)) H) : rAll K [.ref D] H Q := by
  refine ⟨D, (List.range n).map b, rfl, SqL.of ?_, ?_⟩
  · rw [e, list_of_at (f := fun i => V.bl (b i)) l r, List.map_map]
    rfl
  · rw [List.all_map]
    exact q
theorem all_at {α : Type} (xs : List α) (p : α → Bool) : (List.range xs.length).all (fun i => (xs[i]?).any p) = xs.all p := by
  induction xs with
  | nil => rfl
  | cons x xs ih =>
    rw [List.length_cons, List.range_succ_eq_map, List.all_cons, List.all_map, List.all_cons]
    congr 1

theorem names_vals {K : PySem.W.Frag} {H : Hp} : ∀ {xs : List V} {ds : List PyData}, DpAll K H xs ds → ds.all isNameD = true → xs = (strsOf ds).map V.str ∧ (strsOf ds).length = ds.length
  | _, _, .nil, _ => ⟨rfl, rfl⟩
  | _, _, .cons (d := d) h t, e => by
    rw [List.all_cons, Bool.and_eq_true] at e
    obtain ⟨i1, i2⟩ := names_vals t e.2
    cases d with
    | str z =>
      cases dp_str h
      exact ⟨by rw [i1]; rfl, congrArg (· + 1) i2⟩
    | _ => exact absurd e.1 (by simp [isNameD])
/-- what are_desks may be asked: texts that fit; where all are names, unlike ones -/
def okDesks (d : PyData) : Prop := ∀ ds, d = .tuple ds → (∀ e ∈ ds, fitsD e) ∧ (ds.all isNameD = true → (strsOf ds).Nodup)

/-! ### the top's constants, told -/
mutual
theorem den_dp {K : PySem.W.Frag} : ∀ (n : Nat) (u : Value) (d : PyData), denK K n u = some d → ∃ v, RelV v u ∧ ∀ H, Dp K H v d
  | _, .none, d, e => by
    simp only [denK, Option.some.injEq] at e
    subst e
    exact ⟨.non, rfl, fun _ => .non⟩
  | _, .bool b, d, e => by
    simp only [denK, Option.some.injEq] at e
    subst e
    exact ⟨.bl b, rfl, fun _ => .bl b⟩
  | _, .int i t, d, e => by
    simp only [denK, Option.some.injEq] at e
    subst e
    exact ⟨.int i, ⟨t, rfl⟩, fun _ => .int i⟩
  | _, .str x t, d, e => by
    simp only [denK, Option.some.injEq] at e
    subst e
    exact ⟨.str x, ⟨t, rfl⟩, fun _ => .str x⟩
  | n + 1, .ref a, d, e => by
    unfold denK at e
    split at e
    · rename_i dd its m sl hl
      split at e
      · rename_i hz
        rw [Option.map_eq_some_iff] at e
        obtain ⟨ds, e1, rfl⟩ := e
        obtain ⟨vs, r, h⟩ := dens_dp n its.toList ds e1
        exact ⟨.ref a, rfl, fun H => .tup (.inr ⟨_, its, m, hl, rfl, rfl, Nat.le_trans hz (by decide), r⟩) (h H)⟩
      · cases e
    · cases e
  | 0, .ref a, d, e => by
    simp [denK] at e
  | _, .ellipsis, _, e => by simp [denK] at e
  | _, .notImplemented, _, e => by simp [denK] at e
  | _, .float _ _, _, e => by simp [denK] at e
  | _, .bytes _ _, _, e => by simp [denK] at e
  | _, .builtin _, _, e => by simp [denK] at e
  | _, .type _, _, e => by simp [denK] at e
theorem dens_dp {K : PySem.W.Frag} (n : Nat) : ∀ (us : List Value) (ds : List PyData), us.mapM (denK K n) = some ds → ∃ vs, Vals vs us ∧ ∀ H, DpAll K H vs ds
  | [], ds, e => by
    simp only [List.mapM_nil, Option.pure_def, Option.some.injEq] at e
    subst e
    exact ⟨[], .nil, fun _ => .nil⟩
  | u :: us, ds, e => by
    rw [List.mapM_cons] at e
    cases e1 : denK K n u with
    | none => rw [e1] at e; cases e
    | some d =>
      rw [e1] at e
      cases e2 : us.mapM (denK K n) with
      | none => rw [e2] at e; cases e
      | some es =>
        rw [e2] at e
        simp only [Option.bind_eq_bind, Option.bind_some, Option.pure_def, Option.some.injEq] at e
        subst e
        obtain ⟨v, r, h⟩ := den_dp n u d e1
        obtain ⟨vs, rs, hs⟩ := dens_dp n us es e2
        exact ⟨v :: vs, .cons r rs, fun H => .cons (h H) (hs H)⟩
end
theorem den_ref {K : PySem.W.Frag} {n : Nat} {a : Addr} {d : PyData} (e : denK K n (.ref a) = some d) (H : Hp) : Dp K H (.ref a) d := by
  obtain ⟨v, r, h⟩ := den_dp n _ d e
  have : v = .ref a := by
    cases v with
    | ref b => injection (show Value.ref a = Value.ref b from r) with z; rw [z]
    | non => exact absurd (show Value.ref a = Value.none from r) (by intro z; cases z)
    | bl _ => exact absurd r (by intro z; cases z)
    | int _ => obtain ⟨_, z⟩ := r; cases z
    | str _ => obtain ⟨_, z⟩ := r; cases z
    | byt _ => obtain ⟨_, z⟩ := r; cases z
    | flt _ => obtain ⟨_, z⟩ := r; cases z
    | ty _ => exact absurd r (by intro z; cases z)
  subst this
  exact h H
theorem dps_strs {K : PySem.W.Frag} {H : Hp} : ∀ {vs : List V} {ws : List Str}, DpAll K H vs (ws.map PyData.str) → vs = ws.map V.str
  | [], [], _ => rfl
  | _ :: _, [], h => nomatch h
  | [], _ :: _, h => nomatch h
  | v :: vs, w :: ws, .cons h t => by
    cases dp_str h
    rw [dps_strs t]
    rfl
theorem dp_strs {K : PySem.W.Frag} {H : Hp} {v : V} {ws : List Str} (h : Dp K H v (.tuple (ws.map PyData.str))) : ∃ a, v = .ref a ∧ SqT K H a (ws.map V.str) := by
  obtain ⟨a, xs, rfl, h1, h2⟩ := dp_tup h
  exact ⟨a, rfl, dps_strs h2 ▸ h1⟩

/-! ### forms -/
def statusesS : List Str := ["new", "open", "waiting", "closed"]
def eventsS : List Str := ["letter", "answer", "day", "moved", "status", "replied"]
def isBoolD : PyData → Bool
  | .bool _ => true
  | _ => false
def isDaysD : PyData → Bool
  | .int n => decide (1 ≤ n) && decide (n ≤ 30)
  | _ => false
/-- a value of the kind that a form names -/
def fitsKind (dsk : List Str) (k : Str) (d : PyData) : Bool :=
  if k = "status" then isWordD statusesS d else if k = "desk" then isWordD dsk d else if k = "wanted" then isBoolD d else isDaysD d
def formIs (w : Str) (n : Nat) (f : List Str) : Bool := decide (f.head? = some w) && decide (f.tail.length = n)
def hasForm (fs : List (List Str)) (dsk : List Str) : PyData → Bool
  | .tuple (.str w :: rest) => match fs.find? (formIs w rest.length) with
    | some f => (rest.zip f.tail).all fun p => fitsKind dsk p.2 p.1
    | none => false
  | _ => false
def formsD (fs : List (List Str)) : PyData := .tuple (fs.map fun f => .tuple (f.map PyData.str))
def testForms : List (List Str) := [["status", "status", "wanted"], ["desk", "desk", "wanted"], ["answered", "wanted"], ["marked", "wanted"], ["days", "days"]]
def actionForms : List (List Str) := [["status", "status"], ["desk", "desk"], ["reply"], ["mark", "wanted"], ["stop"]]
def deedForms : List (List Str) := [["letter"], ["answer"], ["day"], ["hand", "desk"], ["set", "status"]]
/-- _fits(value, kind, desks) -/
def spFits (K : PySem.W.Frag) : Sp := fun vs H Q _ => ∃ v d k a dsk, vs = [v, .str k, .ref a] ∧ Dp K H v d ∧ SqT K H a (List.map V.str dsk) ∧ ∀ H', Same H H' → Q (.bl (fitsKind dsk k d)) H'
/-- _has_form(value, forms, desks) -/
def spForm (K : PySem.W.Frag) : Sp := fun vs H Q _ => ∃ v d vf fs a dsk, vs = [v, vf, .ref a] ∧ Dp K H v d ∧ (∀ ds, d = .tuple ds → ds.length ≤ 1000) ∧ Dp K H vf (formsD fs) ∧ (∀ f ∈ fs, f ≠ [] ∧ f.length ≤ 1000) ∧ SqT K H a (List.map V.str dsk) ∧ ∀ H', Same H H' → Q (.bl (hasForm fs dsk d)) H'

theorem cut_tail (x : V) (xs : List V) : cutV (x :: xs) (some 1) none = xs := by
  unfold cutV
  rw [HT.sIx_none, show (some 1 : Option Int) = some ((1 : Nat) : Int) from rfl, HT.sIx_nat, List.length_cons, Nat.min_eq_left (by omega)]
  show (xs.take (xs.length + 1 - 1)) = xs
  rw [Nat.add_sub_cancel, List.take_length]
theorem sl_tail {K : PySem.W.Frag} {a : Addr} {x : V} {xs : List V} {H : Hp} {Q : VK} (h : SqT K H a (x :: xs)) (q : ∀ p, H p = none → Q (.ref p) (upd H p (.tup xs))) : rSlA K (.ref a) (some 1) none H Q :=
  ⟨a, x :: xs, rfl, h, fun z => by
    have z := z.1
    rw [show (some 1 : Option Int) = some ((1 : Nat) : Int) from rfl, HT.sIx_nat, List.length_cons] at z
    omega, fun _ p hp => by
    rw [cut_tail]
    exact q p hp⟩
theorem fits_at (dsk : List Str) (rest : List PyData) (ks : List Str) (e : ks.length = rest.length) : (List.range rest.length).all (fun i => ((rest.zip ks)[i]?).any fun p => fitsKind dsk p.2 p.1) = (rest.zip ks).all fun p => fitsKind dsk p.2 p.1 := by
  have h := all_at (rest.zip ks) fun p => fitsKind dsk p.2 p.1
  rw [List.length_zip, e, Nat.min_self] at h
  exact h

theorem find_at {α : Type} {p : α → Bool} : ∀ {l : List α} {i : Nat} {x : α}, (∀ y ∈ l.take i, p y = false) → l[i]? = some x → p x = true → l.find? p = some x
  | [], i, x, _, h, _ => by simp at h
  | a :: l, 0, x, _, h, hp => by
    simp at h
    subst h
    rw [List.find?_cons_of_pos hp]
  | a :: l, i + 1, x, no, h, hp => by
    have ha : p a = false := no a (by simp)
    rw [List.find?_cons_of_neg (by rw [ha]; exact Bool.false_ne_true)]
    exact find_at (i := i) (fun y hy => no y (by rw [List.take_succ_cons]; exact List.mem_cons_of_mem _ hy)) (by simpa using h) hp
/-- a rule with these desks, by its data -/
def isRuleD (dsk : List Str) : PyData → Bool
  | .tuple [ev, .tuple ts, .tuple as] => isWordD eventsS ev && decide (ts.length ≤ 4) && ts.all (hasForm testForms dsk) && decide (1 ≤ as.length) && decide (as.length ≤ 4) && as.all (hasForm actionForms dsk)
  | _ => false
def isDeedD (dsk : List Str) (d : PyData) : Bool := hasForm deedForms dsk d
/-- no tuple within is longer than one may pass -/
def okForm (d : PyData) : Prop := ∀ ds, d = .tuple ds → ds.length ≤ 1000
/-- a question about a value and the desks -/
def spDesk (K : PySem.W.Frag) (ok : PyData → Prop) (g : List Str → PyData → Bool) : Sp := fun vs H Q _ => ∃ v d a dsk, vs = [v, .ref a] ∧ Dp K H v d ∧ ok d ∧ SqT K H a (List.map V.str dsk) ∧ ∀ H', Same H H' → Q (.bl (g dsk d)) H'
theorem spDesk_len {K : PySem.W.Frag} {ok : PyData → Prop} {g : List Str → PyData → Bool} : ∀ vs H Q E, spDesk K ok g vs H Q E → vs.length = 2 := by
  rintro _ _ _ _ ⟨_, _, _, _, rfl, _⟩
  rfl
/-- what is_rule may be asked -/
def okRule (d : PyData) : Prop := (∀ e ts x, d = .tuple [e, .tuple ts, x] → ∀ t ∈ ts, okForm t) ∧ ∀ e x as, d = .tuple [e, x, .tuple as] → ∀ t ∈ as, okForm t
theorem forms_ok : (∀ f ∈ testForms, f ≠ [] ∧ f.length ≤ 1000) ∧ (∀ f ∈ actionForms, f ≠ [] ∧ f.length ≤ 1000) ∧ ∀ f ∈ deedForms, f ≠ [] ∧ f.length ≤ 1000 := by
  decide +kernel
end Ld

set_option Elab.async false
set_option linter.all false
set_option maxRecDepth 100000
set_option maxHeartbeats 2000000
/-! Errors: what a made error is, by its field; a plain error of the package (one text). -/
namespace Ld
open PySem PySem.Spec PyProof.Rows L2
theorem relO_one {n : Str} {v : V} {v' : Value} (r : RelV v v') (f : Str) : RelO (List.lookup f [(n, v)]) (if f = n then some v' else none) := by
  by_cases hw : f = n
  · subst hw
    rw [if_pos rfl]
    have q : List.lookup f [(f, v)] = some v := by simp [List.lookup]
    rw [q]
    exact r
  · rw [if_neg hw]
    have qw : (f == n) = false := by simpa using hw
    have q2 : List.lookup f [(n, v)] = none := by simp [List.lookup, qw]
    rw [q2]
    trivial
/-- E(v), E with the field n -/
def tMkF (C : Addr) (n : Str) (ta : TA) : L2.St → Hp → XK → Prop := fun σ H Q => ta σ H fun vs H1 => ∃ v, vs = [v] ∧ ∀ d, H1 d = none → Q (.ref C) (some d) (upd H1 d (.xd [(n, v)]))
def tRaiseF (C : Addr) (n : Str) (W : WX) (ta : TA) : TS := fun _ σ H => tMkF C n ta σ H fun cls d H' => W cls d σ H'
/-- a class of errors made of one text -/
structure PlainE (K : PySem.W.Frag) (C : Addr) : Prop where
  q : PySem.W.excIn K C PySem.HandSPX.veTail "ValueError.__new__" = true
  k : PySem.W.keepIn K (.ref C) = true
  e : PySem.W.subIn K (.ref C) (.type "BaseException") = some true
  t : PySem.W.typeIn K (.ref C) = some (.type "type")
end Ld

set_option Elab.async false
set_option linter.all false
set_option maxRecDepth 100000
set_option maxHeartbeats 2000000
/-! Own classes' +, ==, [], len: a def of the class is called; what it raises goes by the slots. -/
namespace Ld
open PySem PySem.Spec PyProof.Rows L2
section
variable {X : Cx} {m : Str} {ps : List Str} {k : Nat} {sp : Sp} {E : L2.St → XK} {C : Addr}
theorem ins_at {pins : List (Addr × Obj)} {σ : L2.St} {H : Hp} {s : Shared} {a dx : Addr} {fs : List (Str × V)} (I : Inv X pins σ H s) (e : H a = some (.ins C dx fs)) : ∃ od, PySem.W.InstAt s.heap a (PySem.W.instObj C dx) C (some od) := by
  obtain ⟨mA, O, _⟩ := ins_get I.hok e
  obtain ⟨od, J, _⟩ := O.look
  exact ⟨od, J⟩
theorem run_own {pins : List (Addr × Obj)} {σ : L2.St} {H : Hp} {s : Shared} {Q : VK} {us : List Value} {vs : List V} {f : Addr} {fd : FuncData} (F : FnOk X.prog X.w X.K X.mg X.base (L2.CX X.prog X.w) k f fd ps sp) (hr : Room k X.A) (hb : Binds X.K fd ps []) (hx : PassesAt (L2.CX X.prog X.w) X σ (E σ))
    (I : Inv X pins σ H s) (r : Vals vs us) (h : sp vs H Q (E σ)) : wpAny (model X.prog X.w) X.A (call (.ref f) us) (EP X pins σ Q) X.xe s := run_fnS F hr hb hx I r h
theorem cmpback {P : Value → Shared → Prop} {z : V} {v : Value} {s' : Shared} (r : RelV z v) (h : P v s') : PySem.W.CmpBack P v s' := by
  cases z <;> first
    | exact (by obtain ⟨t, e⟩ := (show ∃ t, v = _ from r); cases e; exact h)
    | exact (by cases (show v = _ from r); exact h)
    | exact (by cases r; exact h)
/-- x + y, both of the class at C -/
def rOwn2 (C : Addr) (sp : Sp) (E : XK) : R2 := fun x y H Q => ∃ a dx fs b dy gs, x = .ref a ∧ y = .ref b ∧ H a = some (.ins C dx fs) ∧ H b = some (.ins C dy gs) ∧ sp [x, y] H Q E
theorem add_own {σ : L2.St} (D : MethOk X.prog X.w X.K X.mg X.base C "__add__" ps k sp) {n : Nat} (hr : Room n X.A) (hk : k ≤ n) (hc : PySem.W.selfFirst X.K C = true) (hx : PassesAt (L2.CX X.prog X.w) X σ (E σ))
    {pins : List (Addr × Obj)} {s : Shared} {H : Hp} {x y : V} {v u : Value} {Q : VK} (I : Inv X pins σ H s) (rx : RelV x v) (ry : RelV y u) (h : rOwn2 C sp (E σ) x y H Q) : wpAny (model X.prog X.w) X.A (binaryOp .Add v u) (EP X pins σ Q) X.xe s := by
  obtain ⟨c, f, fd, M, hb, F, _⟩ := D
  obtain ⟨a, dx, fs, b, dy, gs, rfl, rfl, ha, hb', q⟩ := h
  cases (show v = Value.ref a from rx)
  cases (show u = Value.ref b from ry)
  obtain ⟨od, J⟩ := ins_at I ha
  obtain ⟨od', J'⟩ := ins_at I hb'
  obtain ⟨mm, hF⟩ := I.fr
  refine PySem.W.binop_K (op := .Add) hF I.ok.mod.kin J J'.type hc M.at_ M.fn ?_
  refine wpAny_mono (run_own (us := [.ref a, .ref b]) (vs := [.ref a, .ref b]) F (hr.mono hk) hb hx I (.cons rfl (.cons rfl .nil)) q) (fun w s' z => ?_) fun _ _ x => x
  obtain ⟨z', H', I', rz, qz⟩ := z
  exact cmpback rz ⟨z', H', I', rz, qz⟩
theorem op_addO {E : XK} (D : MethOk X.prog X.w X.K X.mg X.base C "__add__" ps k sp) {n : Nat} (hr : Room n X.A) (hc : PySem.W.selfFirst X.K C = true) (hx : Passes (L2.CX X.prog X.w) X E) (hk : k ≤ n := by omega) : OpR X (binaryOp .Add) (rOwn2 C sp E) :=
  fun pins s σ H x y v u Q I rx ry h => add_own (E := fun _ => E) D hr hk hc (fun pins H s e s' I c => hx pins σ H s e s' I c) I rx ry h
def tOwn2S (C : Addr) (sp : Sp) (E : L2.St → XK) (ta tb : TE) : TE := fun σ H Q => ta σ H fun x H1 => tb σ H1 fun y H2 => rOwn2 C sp (E σ) x y H2 Q
theorem pe_addS {a b : Expr} {ta tb : TE} {pos : Pos} (D : MethOk X.prog X.w X.K X.mg X.base C "__add__" ps k sp) {n : Nat} (hr : Room n X.A) (hc : PySem.W.selfFirst X.K C = true) (hx : ∀ σ, PassesAt (L2.CX X.prog X.w) X σ (E σ)) (ha : PE X a ta) (hb : PE X b tb) (hk : k ≤ n := by omega) :
    PE X (a.BinOp .Add b pos) (tOwn2S C sp E ta tb) := by
  refine ⟨fun pins s σ H Q I h => ?_⟩
  exact wpAny_BinOp (binT ha hb I h fun v u s2 x y H2 I2 rx ry q => add_own D hr hk hc (hx σ) I2 rx ry q)
/-- x == y, both of the class at C -/
theorem op_eqO {E : XK} (D : MethOk X.prog X.w X.K X.mg X.base C "__eq__" ps k sp) {n : Nat} (hr : Room n X.A) (hc : PySem.W.notFirst X.K C (.ref C) = true) (hx : Passes (L2.CX X.prog X.w) X E) (hk : k ≤ n := by omega) : OpR X (compareOp .Eq) (rOwn2 C sp E) := by
  intro pins s σ H x y v u Q I rx ry h
  obtain ⟨c, f, fd, M, hb, F, _⟩ := D
  obtain ⟨a, dx, fs, b, dy, gs, rfl, rfl, ha, hb', q⟩ := h
  cases (show v = Value.ref a from rx)
  cases (show u = Value.ref b from ry)
  obtain ⟨od, J⟩ := ins_at I ha
  obtain ⟨od', J'⟩ := ins_at I hb'
  obtain ⟨mm, hF⟩ := I.fr
  show wpAny _ _ (richCompare .Eq _ _) _ _ _
  refine PySem.W.cmp_K (op := .Eq) (tb := .ref C) hr.units0 hF I.ok.mod.kin J J'.type hc M.at_ M.fn ?_
  refine wpAny_mono (run_own (E := fun _ => E) (us := [.ref a, .ref b]) (vs := [.ref a, .ref b]) F (hr.mono hk) hb (fun pins H s e s' I c => hx pins σ H s e s' I c) I (.cons rfl (.cons rfl .nil)) q) (fun w s' z => ?_) fun _ _ x => x
  obtain ⟨z', H', I', rz, qz⟩ := z
  exact cmpback rz ⟨z', H', I', rz, qz⟩
/-- x[y], x of the class at C -/
def rOwnIx (C : Addr) (sp : Sp) (E : XK) : R2 := fun x y H Q => ∃ a dx fs, x = .ref a ∧ H a = some (.ins C dx fs) ∧ sp [x, y] H Q E
theorem MethAt.isDef {K : PySem.W.Frag} {qual : Str} {st : Stmt} (F : MethAt K C m qual st ps) : ∃ f, PySem.W.findIn K (.ref C) m = some (some (.ref f)) ∧ PySem.W.fnIn K f = true := by
  obtain ⟨f, fd, M, ⟨⟨oc, od, kV, doc, pm, an, cdv, ct, osl, e, l, _⟩, _⟩, _⟩ := F.ex
  refine ⟨f, M.at_, ?_⟩
  unfold PySem.W.fnIn
  rw [l]
theorem ix_own {σ : L2.St} {qual : Str} {st : Stmt} (At : MethAt X.K C "__getitem__" qual st ps) (D : MethOk X.prog X.w X.K X.mg X.base C "__getitem__" ps k sp) {n : Nat} (hr : Room n X.A) (hk : k + 1 ≤ n) (hx : PassesAt (L2.CX X.prog X.w) X σ (E σ)) (value slice : Expr)
    {pins : List (Addr × Obj)} {s : Shared} {H : Hp} {x y : V} {v u : Value} {Q : VK} (I : Inv X pins σ H s) (rx : RelV x v) (ry : RelV y u) (h : rOwnIx C sp (E σ) x y H Q)
    (hsl : subscripted slice true v u = runValue (.builtin "lifetime.subscript" ⟨[v, u], []⟩)) : wpAny (model X.prog X.w) X.A (subscriptTail value slice v u) (EP X pins σ Q) X.xe s := by
  obtain ⟨c, f, fd, M, hb, F, _⟩ := D
  obtain ⟨f', e1, e2⟩ := At.isDef
  rw [M.at_] at e1
  cases e1
  obtain ⟨a, dx, fs, rfl, ha, q⟩ := h
  cases (show v = Value.ref a from rx)
  obtain ⟨od, J⟩ := ins_at I ha
  obtain ⟨mm, hF⟩ := I.fr
  refine PySem.W.sub_K hF I.ok.mod.kin J M.at_ e2 M.fn ?_ hsl
  have l : [Value.ref a, u].length = ps.length := F.len _ _ _ _ q
  have b := hb s [.ref a, u] I.kIn (by rw [List.append_nil]; exact l)
  rw [List.append_nil] at b
  refine wpAny_call (codeAny_mono (F.run X.A.in1 X.stack s H ⟨[.ref a, u], []⟩ [.ref a, u] [.ref a, y] Q (E σ) (Room.in1 (hr.mono hk)) I.env0.in1 b (.cons rfl (.cons ry .nil)) q) fun r s' hq => ?_)
  cases r with
  | error e => exact hx pins H s e s' I hq
  | ok fl =>
    cases fl with
    | ret u => exact I.after hq
    | next => exact hq
    | brk => exact hq
    | cont => exact hq
def tOwnIxS (C : Addr) (sp : Sp) (E : L2.St → XK) (ta tb : TE) : TE := fun σ H Q => ta σ H fun x H1 => tb σ H1 fun y H2 => rOwnIx C sp (E σ) x y H2 Q
/-- x[y] where x is of the class at C -/
theorem pe_ixS {a b : Expr} {ta tb : TE} {pos : Pos} {qual : Str} {st : Stmt} (At : MethAt X.K C "__getitem__" qual st ps) (D : MethOk X.prog X.w X.K X.mg X.base C "__getitem__" ps k sp) {n : Nat} (hr : Room n X.A) (hx : ∀ σ, PassesAt (L2.CX X.prog X.w) X σ (E σ)) (ha : PE X a ta) (hb : PE X b tb)
    (hs : ∀ v u, subscripted b true v u = runValue (.builtin "lifetime.subscript" ⟨[v, u], []⟩) := by intro _ _; with_unfolding_all rfl) (hk : k + 1 ≤ n := by omega) : PE X (.Subscript a b pos) (tOwnIxS C sp E ta tb) := by
  refine ⟨fun pins s σ H Q I h => ?_⟩
  exact Subscript_ (binT ha hb I h fun v u s2 x y H2 I2 rx ry q => ix_own At D hr hk (hx σ) a b I2 rx ry q (hs v u))
/-- len(x), x of the class at C -/
def rOwnLen (C : Addr) (sp : Sp) (E : XK) : List V → Hp → VK → Prop := fun xs H Q => ∃ a dx fs, xs = [V.ref a] ∧ H a = some (.ins C dx fs) ∧ sp [.ref a] H (fun z H' => ∃ n : Nat, z = .int n ∧ (n : Int) < 2 ^ 62 ∧ Q z H') E
theorem call_lenO {E : XK} (D : MethOk X.prog X.w X.K X.mg X.base C "__len__" ps k sp) {n : Nat} (hr : Room n X.A) (hx : Passes (L2.CX X.prog X.w) X E) (hk : k + 1 ≤ n := by omega) : CallR X (.builtin "len") (rOwnLen C sp E) := by
  intro pins s σ H xs us Q I r h
  obtain ⟨a, dx, fs, rfl, ha, q⟩ := h
  obtain ⟨u, rfl, ru⟩ := r.one
  cases (show u = Value.ref a from ru)
  obtain ⟨c, f, fd, M, hb, F, _⟩ := D
  obtain ⟨od, J⟩ := ins_at I ha
  obtain ⟨mm, hF⟩ := I.fr
  refine PySem.W.len_K hF I.ok.mod.kin J M.at_ M.fn ?_
  have l : [Value.ref a].length = ps.length := F.len _ _ _ _ q
  have b := hb s [.ref a] I.kIn (by rw [List.append_nil]; exact l)
  rw [List.append_nil] at b
  refine wpAny_call (codeAny_mono (F.run X.A.in1 X.stack s H ⟨[.ref a], []⟩ [.ref a] [.ref a] _ E (Room.in1 (hr.mono hk)) I.env0.in1 b (.cons rfl .nil) q) fun r s' hq => ?_)
  cases r with
  | error e => exact hx pins σ H s e s' I hq
  | ok fl =>
    cases fl with
    | ret u =>
      obtain ⟨z, H', I', rz, n, e, hn, qz⟩ := I.after hq
      subst e
      obtain ⟨t, e⟩ := (show ∃ t, u = Value.int n t from rz)
      cases e
      exact ⟨⟨by omega, by omega⟩, .int n, H', I'.tok _, ⟨_, rfl⟩, qz⟩
    | next => exact hq
    | brk => exact hq
    | cont => exact hq
/-- x.m(..), what it raises by the slots -/
def tMethS (C : Addr) (m : Str) (sp : Sp) (E : L2.St → XK) (ta : TE) (t : TA) : TE := fun σ H Q => ta σ H fun x H1 => ∃ a dx fs, x = .ref a ∧ H1 a = some (.ins C dx fs) ∧ fs.lookup m = none ∧ t σ H1 fun vs H2 => sp (x :: vs) H2 Q (E σ)
theorem pe_methSD {pl : Sem Bool} {pos apos : Pos} {e o : Expr} {es : List Expr} {t : TA} {ta : TE} (D : MethOk X.prog X.w X.K X.mg X.base C m ps k sp) {n : Nat} (hr : Room n X.A) (he : PE X o ta) (hx : ∀ σ, PassesAt (L2.CX X.prog X.w) X σ (E σ)) (ha : PA X (e :: es) t) (hk : k ≤ n := by omega)
    (hst : starEach (e :: es) X.env = (false, eval e X.env) :: starEach es X.env := by rfl) (hpl : (backTo pos (starEach es X.env)).any (·.1) = false := by rfl)
    (ht : eval (.Call (.Attribute o m apos) (e :: es) [] pos) X.env = (do
      let ov ← eval o X.env
      standAt apos.atName
      let (f, first) ← holding [ov] (getMethod ov m pl)
      callWith pos f first (backTo pos (starEach (e :: es) X.env)) (backToKw pos (keywordEach [] X.env))) := by rfl) :
    PE X (.Call (.Attribute o m apos) (e :: es) [] pos) (tMethS C m sp E ta t) := by
  obtain ⟨c, f, fd, hm, hb, F, _⟩ := D
  refine ⟨fun pins s σ H Q I h => ?_⟩
  refine PySem.W.methodCall_KW (pl := pl) (thn (he.run pins s σ H _ I h) fun u s1 ⟨x, H1, I1, rx, a, dx, fs, ex, ea, l, q⟩ => ?_) ht
  subst ex
  obtain rfl : u = Value.ref a := rx
  refine getmeth_ok I1 ea c hm l ?_
  refine PySem.W.callWith_K (first := [.ref a]) (h₀ := X.base) I.ok.mod.kin hm.kp (thn (ha.run pos pins s1 σ H1 _ I1 q) fun us s2 ⟨vs, H2, I2, r, q2⟩ => ⟨I2.kIn, ?_⟩) hst hpl
  exact run_fnS (us := .ref a :: us) (vs := .ref a :: vs) F (hr.mono hk) hb (hx σ) I2 (.cons rfl r) q2
end
end Ld

set_option Elab.async false
set_option linter.all false
set_option maxRecDepth 100000
set_option maxHeartbeats 2000000
/-! Calls with one keyword: a method's only parameter by its name. -/
namespace Ld
open PySem PySem.Spec PyProof.Rows L2
def kwG {α : Type} (us ws : List α) : List α := match us, ws with
  | [a], [b] => [a, b]
  | _, _ => []
theorem kwG_rel {vs zs : List V} {us ws : List Value} (r : Vals vs us) (q : Vals zs ws) : Vals (kwG vs zs) (kwG us ws) := by
  cases r with
  | nil => cases q <;> exact .nil
  | cons a r => cases r with
    | nil => cases q with
      | nil => exact .nil
      | cons b q => cases q with
        | nil => exact .cons a (.cons b .nil)
        | cons _ _ => exact .nil
    | cons _ _ => cases q <;> exact .nil
theorem kb_one {K : PySem.W.Frag} {fd : FuncData} {a b : Str} (h : ∀ u w : Value, bindArgs fd ⟨[u], [(b, w)]⟩ = pure [(a, u), (b, w)]) : KBinds K fd [a, b] [b] kwG kwG := by
  refine ⟨fun s us ws _ hl => ?_, kwG_rel⟩
  match us, ws, hl with
  | [u], [w], _ => exact .of_eq (h u w)
/-- o.m(x = e) -/
def tMethK1 (C : Addr) (m : Str) (sp : Sp) (E : XK) (ta : TE) (tk : TA) : TE := fun σ H Q => ta σ H fun x H1 => ∃ a dx fs, x = .ref a ∧ H1 a = some (.ins C dx fs) ∧ fs.lookup m = none ∧ tk σ H1 fun zs H2 => ∃ z, zs = [z] ∧ sp [x, z] H2 Q E
theorem pe_methKD1 {X : Cx} {m qual kw a : Str} {st : Stmt} {k : Nat} {sp : Sp} {E : XK} {C : Addr} {o : Expr} {kws : List Keyword} {ta : TE} {tk : TA} {pos apos : Pos} {pl : Sem Bool}
    (At : MethAt X.K C m qual st [a, kw]) (D : MethOk X.prog X.w X.K X.mg X.base C m [a, kw] k sp) {n : Nat} (hr : Room n X.A) (he : PE X o ta) (hx : Passes (L2.CX X.prog X.w) X E) (hkw : PK X kws tk)
    (hb : ∀ (kV doc pm : Value) (an : Option Addr) (cdv ct : Value) (u w : Value), bindArgs (PySem.W.fnOf m qual (defArgs st) (defBody st) (defScope st) .none kV doc pm an cdv ct) ⟨[u], [(kw, w)]⟩ = pure [(a, u), (kw, w)]) (hk : k ≤ n := by omega)
    (hall : (backToKw pos (keywordEach kws X.env)).all (·.1.isSome) = true := by rfl) (hks : (backToKw pos (keywordEach kws X.env)).filterMap (·.1) = [kw] := by rfl)
    (hpl : ((backTo pos (starEach [] X.env)).any (·.1) || (backToKw pos (keywordEach kws X.env)).any (·.1.isNone)) = false := by rfl)
    (ht : eval (.Call (.Attribute o m apos) [] kws pos) X.env = (do
      let ov ← eval o X.env
      standAt apos.atName
      let (f, first) ← holding [ov] (getMethod ov m pl)
      callWith pos f first (backTo pos (starEach [] X.env)) (backToKw pos (keywordEach kws X.env))) := by rfl) :
    PE X (.Call (.Attribute o m apos) [] kws pos) (tMethK1 C m sp E ta tk) := by
  obtain ⟨c, f, fd, hm, _, F, lk⟩ := D
  obtain ⟨f', fd', hm', hf, _⟩ := At.ex
  have e1 := hm'.at_
  rw [hm.at_] at e1
  cases e1
  have e2 : fd' = fd := hf.lkF.inj lk
  subst e2
  obtain ⟨oc, od, kV, doc, pm, an, cdv, ct, osl, e, l, _⟩ := hf.ex
  subst e
  refine ⟨fun pins s σ H Q I h => ?_⟩
  refine PySem.W.methodCall_KW (pl := pl) (thn (he.run pins s σ H _ I h) fun u s1 ⟨x, H1, I1, rx, a, dx, fs, ex, ea, l, q⟩ => ?_) ht
  subst ex
  obtain rfl : u = Value.ref a := rx
  refine getmeth_ok I1 ea c hm l ?_
  refine PySem.W.callWith_KW0 (first := [.ref a]) (h₀ := X.base) I.ok.mod.kin hm.kp hall (thn (hkw.run pos pins s1 σ H1 _ I1 q) fun ws s2 ⟨zs, H2, I2, r, z, ez, q2⟩ => ⟨I2.kIn, ?_⟩) hpl
  subst ez
  obtain ⟨w, rfl, rw1⟩ := r.one
  rw [hks]
  exact run_fnk (us := [.ref a]) (vs := [.ref a]) (ws := [w]) (zs := [z]) F (hr.mono hk) (kb_one fun u w => hb kV doc pm an cdv ct u w) hx I2 (.cons rfl .nil) (.cons rw1 .nil) q2
end Ld

set_option Elab.async false
set_option linter.all false
set_option maxRecDepth 100000
set_option maxHeartbeats 2000000
/-! try with several clauses, some of them with a name. -/
namespace Ld
open PySem PySem.Spec PyProof.Rows L2
/-- the ends of a suite whose name goes behind it -/
def Ends.cut (i : Nat) (D : Ends) : Ends := ⟨fun τ G => D.nx (τ.set i none) G, D.rt, fun τ G => D.bk (τ.set i none) G, fun τ G => D.ct (τ.set i none) G⟩
abbrev Cl := Option Nat × Value × (Addr → Value → Option Addr → TS)
/-- what the clauses ask, from the first on; a number is the slot of a clause's name -/
def wMix (K : PySem.W.Frag) (W : WX) (D : Ends) : List Cl → WX
  | [] => W
  | (none, c, ts) :: r => fun k d τ G => ∃ y, PySem.W.exmOne K k c = some y ∧ (y = true → ∀ z, G z = none → ts z k d D τ G) ∧ (y = false → wMix K W D r k d τ G)
  | (some i, c, ts) :: r => fun k d τ G => ∃ y, PySem.W.exmOne K k c = some y ∧ (y = true → ∀ z, G z = none → ts z k d (Ends.cut i D) (τ.set i (some (.ref z))) G) ∧ (y = false → wMix K W D r k d τ G)
inductive MixOk (X : Cx) : List ExceptHandler → List Cl → Prop
  | nil : MixOk X [] []
  | bare {x : Str} {c : Value} {ts : Addr → Value → Option Addr → TS} {st : Stmt} {su : List Stmt} {p1 p2 : Pos} {hs : List ExceptHandler} {l : List Cl} (hc : Names X x c)
      (hu : ∀ (z : Addr) (oz : Obj) (k : Value) (d : Option Addr) (pn : List (Addr × Obj)), Zc k d oz → (∃ vs, oz.data = .fields vs) → PSs (X.suite z ((z, oz) :: pn)) (st :: su) (ts z k d)) (r : MixOk X hs l) :
      MixOk X (.ExceptHandler (some (.Name x p1)) none (st :: su) p2 :: hs) ((none, c, ts) :: l)
  | named {x n : Str} {i : Nat} {c : Value} {ts : Addr → Value → Option Addr → TS} {st : Stmt} {su : List Stmt} {p1 p2 : Pos} {hs : List ExceptHandler} {l : List Cl} (hN : X.N.Nodup) (hi : X.N[i]? = some n) (hn : X.env.kindOf n = some .local) (hc : Names X x c)
      (hu : ∀ (z : Addr) (oz : Obj) (k : Value) (d : Option Addr) (pn : List (Addr × Obj)), Zc k d oz → (∃ vs, oz.data = .fields vs) → PSs (X.suite z ((z, oz) :: pn)) (st :: su) (ts z k d)) (r : MixOk X hs l) :
      MixOk X (.ExceptHandler (some (.Name x p1)) (some n) (st :: su) p2 :: hs) ((some i, c, ts) :: l)
/-- an exception stands before the clauses -/
structure Fallen (X : Cx) (pins : List (Addr × Obj)) (τ : L2.St) (G : Hp) (z : Addr) (k : Value) (d : Option Addr) (B : Heap) (si s : Shared) (g : Heap) : Prop where
  ok : X.Ok
  fr : X.env.frame = some X.env.locals
  inv : Inv X pins τ G si
  nb : ∀ b o, si.heap.get? b = some o → b ∉ frs X.stack → B.get? b = some o
  os : s.os = si.os
  ag : AllBare s.gens
  none : G z = none
  fly : HandSPX.FlyingZ B (X.env :: X.outer) z (Zc k d) g
  up : si.heap.UpToSlots g
section
variable {X : Cx} {pins : List (Addr × Obj)} {τ : L2.St} {G : Hp} {z : Addr} {k : Value} {d : Option Addr} {B : Heap} {si s : Shared} {g : Heap}
theorem Fallen.at_ (F : Fallen X pins τ G z k d B si s g) : Inv X pins τ G { s with heap := g } := F.inv.landed F.nb F.fly.1 F.up F.os F.ag
/-- the suite's own state -/
theorem Fallen.sub (F : Fallen X pins τ G z k d B si s g) : ∃ oz vs, g.get? z = some oz ∧ Zc k d oz ∧ oz.data = .fields vs ∧ Inv (X.suite z ((z, oz) :: (X.pn ++ pins))) [] τ G { s with heap := g } := by
  obtain ⟨oz, vs, e1, e2, e3⟩ := F.fly.there
  have away : z ∉ frs (X.env :: X.outer) := fun m => by
    obtain ⟨_, o2, q1, q2⟩ := F.fly.2.2.1.mem m
    rw [e1] at q1
    cases q1
    exact q2 _ e3
  refine ⟨oz, vs, e1, e2, e3, F.at_.suite e1 e3 F.none (fun q => away ?_) fun m => ?_⟩
  · exact List.mem_filterMap.mpr ⟨X.env, List.mem_cons_self, F.fr.trans (congrArg some q.symm)⟩
  · obtain ⟨e, m1, m2⟩ := List.mem_filterMap.mp m
    exact away (List.mem_filterMap.mpr ⟨e, List.mem_cons_of_mem _ m1, m2⟩)
theorem Fallen.again (F : Fallen X pins τ G z k d B si s g) {M : Model} {A : Around} {E : Value → Shared → Prop} {Q : Unit → Shared → Prop} (q : ∀ g2, Fallen X pins τ G z k d B si s g2 → Q () { s with heap := g2 }) : wpAny M A (setFlight (.ref z) Option.none) Q E { s with heap := g } :=
  HandSPX.lands_againZ F.fly fun g2 f2 u2 => q g2 ⟨F.ok, F.fr, F.inv, F.nb, F.os, F.ag, F.none, f2, F.up.trans u2⟩
/-- the class of a clause, looked up -/
theorem Fallen.ask (F : Fallen X pins τ G z k d B si s g) {x : Str} {c : Value} {p1 : Pos} (hc : Names X x c) {Q : Value → Shared → Prop} {E : Value → Shared → Prop} (q : Q c { s with heap := g }) :
    wpAny (model X.prog X.w) (X.A.mark (some (.ref z))) (eval (.Name x p1) X.env) Q E { s with heap := g } := by
  obtain ⟨oz, _, _, _, _, J⟩ := F.sub
  obtain ⟨y1, y2, y3⟩ := hc
  rcases y3 with y3 | ⟨y3, y4, y5⟩
  · exact ld_glob (X := X.suite z ((z, oz) :: (X.pn ++ pins))) J y1 y3 q y2
  · exact ld_blt (X := X.suite z ((z, oz) :: (X.pn ++ pins))) J y1 y3 y4 q y5 y2
theorem Fallen.is (F : Fallen X pins τ G z k d B si s g) {c : Value} {y : Bool} (e : PySem.W.exmOne X.K k c = some y) : PySem.W.Looks (model X.prog X.w) g (excMatches (.ref z) c) y := by
  obtain ⟨oz, _, e1, e2, _⟩ := F.sub
  exact PySem.W.exm_one F.at_.kIn (fun A Q E s2 k2 q => wpAny_typeOf_ref (k2 _ _ e1) (e2.1 ▸ q)) e
/-- no clause takes it -/
theorem Fallen.gone (F : Fallen X pins τ G z k d B si s g) {W : WX} {D : Ends} (tk : Takes X W) (hs : X.stack = X.env :: X.outer) (w : W k d τ G) : wpAny (model X.prog X.w) X.A (handleBy (.ref z) X.env []) (SP X pins D) X.xe { s with heap := g } := by
  refine wpAny_handleBy_nil ?_
  obtain ⟨_, _, _, _, _, T, _, _, e1, _, e3, e4, _⟩ := id F.fly
  have last : wpAny (model X.prog X.w) X.A (setFlight (.ref z) X.env.frame) (fun _ s4 => wpAny (model X.prog X.w) X.A (throw (.ref z) : Sem Flow) (SP X pins D) X.xe s4) X.xe { s with heap := g } := by
    rw [F.fr]
    refine HandSPX.setFlight_upZ F.fly fun g2 h2 u2 => wpAny_throw (tk _ _ ?_)
    exact ⟨z, B, si, pins, τ, G, k, d, rfl, F.inv, F.nb, F.up.trans u2, .inr (.inr (hs ▸ h2)), F.none, F.os, F.ag, w⟩
  unfold PySem.passOn
  refine wpAny_bind (wpAny_field e1 e3 e4 ?_)
  rw [if_neg (by simp)]
  first
    | exact wpAny_bind (wpAny_pure (wpAny_bind last))
    | exact wpAny_bind last
theorem Fallen.mix {W : WX} {D : Ends} (tk : Takes X W) (hs : X.stack = X.env :: X.outer) {hds : List ExceptHandler} {l : List Cl} (hh : MixOk X hds l) : ∀ {g : Heap}, Fallen X pins τ G z k d B si s g → wMix X.K W D l k d τ G → wpAny (model X.prog X.w) X.A (handleBy (.ref z) X.env hds) (SP X pins D) X.xe { s with heap := g } := by
  induction hh with
  | nil => exact fun F w => F.gone tk hs w
  | bare hc hu r ih =>
    rintro g F ⟨y, e, yes, no⟩
    refine wpAny_handleBy_cons (codeAny_handlers_test (F.ask hc ((F.is e).here ?_))) (by intro q; cases q)
    cases y with
    | false => exact ih F (no rfl)
    | true =>
      refine codeAny_handlers_suite (F.again fun g2 F2 => ?_)
      obtain ⟨oz, vs, _, e2, e3, J⟩ := F2.sub
      refine wpAny_mono ((hu z oz k d (X.pn ++ pins) e2 ⟨vs, e3⟩).run [] _ _ G _ J (yes rfl z F.none)) (fun f s6 hf => ?_) fun _ _ q => q.elim
      cases f with
      | ret u =>
        obtain ⟨v, τ6, G6, J6, r6, q6⟩ := hf
        exact ⟨v, τ6, G6, J6.unsuite F.ok, r6, q6⟩
      | next =>
        obtain ⟨τ6, G6, J6, q6⟩ := hf
        exact ⟨τ6, G6, J6.unsuite F.ok, q6⟩
      | brk =>
        obtain ⟨τ6, G6, J6, q6⟩ := hf
        exact ⟨τ6, G6, J6.unsuite F.ok, q6⟩
      | cont =>
        obtain ⟨τ6, G6, J6, q6⟩ := hf
        exact ⟨τ6, G6, J6.unsuite F.ok, q6⟩
  | named hN hi hn hc hu r ih =>
    rintro g F ⟨y, e, yes, no⟩
    refine wpAny_handleBy_cons (codeAny_handlers_test (F.ask hc ((F.is e).here ?_))) (by intro q; cases q)
    cases y with
    | false => exact ih F (no rfl)
    | true =>
      refine codeAny_handlers_suite_as (F.again fun g2 F2 => ?_)
      obtain ⟨oz, vs, _, e2, e3, J⟩ := F2.sub
      refine store_ok (X := X.suite z ((z, oz) :: (X.pn ++ pins))) (v := .ref z) J hN hi (.inl hn) rfl (fun s5 J5 => ?_) (.inr hn)
      refine wpAny_mono ((hu z oz k d (X.pn ++ pins) e2 ⟨vs, e3⟩).run [] s5 _ G _ J5 (yes rfl z F.none)) (fun f s6 hf => ?_) fun _ _ q => q.elim
      cases f with
      | ret u =>
        obtain ⟨v, τ6, G6, J6, r6, q6⟩ := hf
        exact gone_ok (J6.unsuite F.ok) hN hi hn fun s7 J7 => ⟨v, _, G6, J7, r6, q6⟩
      | next =>
        obtain ⟨τ6, G6, J6, q6⟩ := hf
        exact gone_ok (J6.unsuite F.ok) hN hi hn fun s7 J7 => ⟨_, G6, J7, q6⟩
      | brk =>
        obtain ⟨τ6, G6, J6, q6⟩ := hf
        exact gone_ok (J6.unsuite F.ok) hN hi hn fun s7 J7 => ⟨_, G6, J7, q6⟩
      | cont =>
        obtain ⟨τ6, G6, J6, q6⟩ := hf
        exact gone_ok (J6.unsuite F.ok) hN hi hn fun s7 J7 => ⟨_, G6, J7, q6⟩
end
/-- an exception of the body comes to the clauses -/
def coming (X : Cx) (hds : List ExceptHandler) (pins : List (Addr × Obj)) (D : Ends) : Value → Shared → Prop := fun z t =>
  let M := model X.prog X.w
  wpAny M X.A (noteFrame z X.env) (fun _ t2 => wpAny M X.A (setFlight z Option.none) (fun _ t3 => wpAny M X.A (handleBy z X.env hds) (SP X pins D) X.xe t3) X.xe t2) X.xe t
section
variable {X : Cx} {body : List Stmt} {hd : ExceptHandler} {hds : List ExceptHandler} {l : List Cl} {pos : Pos} {tb : WX → TS} {W : WX}
theorem ps_try_mix (hs : X.stack = X.env :: X.outer) (hf : X.env.frame = some X.env.locals) (tk : Takes X W)
    (hb : ∀ (V : WX) (pn : List (Addr × Obj)) (xe : Value → Shared → Prop), Takes (X.tr pn xe) V → PassesOwn (model X.prog X.w) X.A X.env xe → PSs (X.tr pn xe) body (tb V))
    (hh : MixOk X (hd :: hds) l) : PS X (.Try body (hd :: hds) [] [] pos) (fun D σ H => tb (wMix X.K W D l) D σ H) := by
  refine ⟨fun pins s σ H D I h => wpAny_Try_except ?_⟩
  have hfr : X.A.frames = some (X.env :: X.outer) := hs ▸ I.ok.frames
  have T : Takes (X.tr (X.pn ++ pins) (coming X (hd :: hds) pins D)) (wMix X.K W D l) := fun u s2 xx => by
    obtain ⟨z, B, si, pins', τ, G, k, d, rfl, J', nb, up, sky, na, os, ag, w⟩ := xx
    refine Sky.land Zc.steady hfr hf (hs ▸ sky) fun g fl u2 => ?_
    exact Fallen.mix tk hs hh ⟨I.ok, hf, J'.ofTry I.ok, nb, os, ag, na, fl, up.trans u2⟩ w
  refine wpAny_mono ((hb _ _ _ T (by unfold coming; exact PassesOwn.looking)).run [] s σ H D (I.toTry _) h) (fun f s1 q => ?_) (fun e s1 he => he)
  cases f with
  | ret u =>
    obtain ⟨v, σ', H', J', r, q⟩ := q
    exact ⟨v, σ', H', J'.ofTry I.ok, r, q⟩
  | next =>
    obtain ⟨σ', H', J', q⟩ := q
    exact wpAny_execs_nil ⟨σ', H', J'.ofTry I.ok, q⟩
  | brk =>
    obtain ⟨σ', H', J', q⟩ := q
    exact ⟨σ', H', J'.ofTry I.ok, q⟩
  | cont =>
    obtain ⟨σ', H', J', q⟩ := q
    exact ⟨σ', H', J'.ofTry I.ok, q⟩
end
end Ld

set_option Elab.async false
set_option linter.all false
set_option maxRecDepth 100000
set_option maxHeartbeats 2000000
/-! Steps where a rule stands folded. -/
namespace Ld
open PySem PySem.Spec PyProof.Rows L2
variable {K : PySem.W.Frag} {H : Hp} {Q : VK} {p : Addr} {xs ys : List V} {v x y : V}
theorem len_t (h : SqT K H p xs) (q : Q (.int xs.length) H) : rLenU K [.ref p] H Q := .inl ⟨p, xs, rfl, .inr h, q⟩
theorem len_l (h : SqL K H p xs) (q : Q (.int xs.length) H) : rLenU K [.ref p] H Q := .inl ⟨p, xs, rfl, .inl h, q⟩
theorem len_s {z : Str} (h : z.length ≤ sizeLine) (q : Q (.int z.length) H) : rLenU K [.str z] H Q := .inr ⟨z, rfl, h, q⟩
theorem ix_t {i : Int} (h : SqT K H p xs) (e : atI xs i = some v) (q : Q v H) : rIxU K (.ref p) (.int i) H Q := .inl ⟨p, xs, i, v, rfl, rfl, .inr h, e, q⟩
theorem ix_l {i : Int} (h : SqL K H p xs) (e : atI xs i = some v) (q : Q v H) : rIxU K (.ref p) (.int i) H Q := .inl ⟨p, xs, i, v, rfl, rfl, .inl h, e, q⟩
theorem tup_l (h : SqL K H p xs) (q : ∀ l, H l = none → Q (.ref l) (upd H l (.tup xs))) : rTupU K [.ref p] H Q := ⟨p, xs, rfl, .inl ⟨h, q⟩⟩
theorem tup_t (h : SqT K H p xs) (q : Q (.ref p) H) : rTupU K [.ref p] H Q := ⟨p, xs, rfl, .inr ⟨h, q⟩⟩
theorem list_t (h : SqT K H p xs) (q : ∀ l, H l = none → Q (.ref l) (upd H l (.lst xs))) : rListU K [.ref p] H Q := ⟨p, xs, rfl, .inr h, q⟩
theorem list_l (h : SqL K H p xs) (q : ∀ l, H l = none → Q (.ref l) (upd H l (.lst xs))) : rListU K [.ref p] H Q := ⟨p, xs, rfl, .inl h, q⟩
theorem Same.put {H H' : Hp} {D : Addr} {o : HO} (k : Same H H') (n : H' D = none) : Same H (upd H' D o) := Same.trans k (Same.new (Same.refl _) n)
theorem dps_at : ∀ {vs : List V} {ds : List PyData} {i : Nat} {d : PyData}, DpAll K H vs ds → ds[i]? = some d → ∃ v, vs[i]? = some v ∧ Dp K H v d
  | _, _, i, d, .nil, h => by simp at h
  | _, _, 0, d, .cons h _, e => by
    simp at e
    subst e
    exact ⟨_, rfl, h⟩
  | _, _, i + 1, d, .cons _ t, e => by
    simp at e
    obtain ⟨v, h1, h2⟩ := dps_at t e
    exact ⟨v, by simpa using h1, h2⟩
/-- two tuples put together -/
theorem cat_dp {r1 r2 : List PyData} (h1 : Dp K H x (.tuple r1)) (h2 : Dp K H y (.tuple r2)) (l1 : r1.length ≤ 1000) (l2 : r2.length ≤ 1000) (q : ∀ v H', Same H H' → Dp K H' v (.tuple (r1 ++ r2)) → Q v H') : rAddU K x y H Q := by
  obtain ⟨a, xs, rfl, sx, dx⟩ := dp_tup h1
  obtain ⟨b, ys, rfl, sy, dy⟩ := dp_tup h2
  have e1 := dps_len dx
  have e2 := dps_len dy
  refine .inr (.inr ⟨a, b, xs, ys, rfl, rfl, sx, sy, by rw [sizeLine_eq]; omega, fun e => ?_, fun _ e => ?_, fun _ _ p n => ?_⟩)
  · subst e
    cases dx
    exact q _ _ (Same.refl H) h2
  · subst e
    cases dy
    exact q _ _ (Same.refl H) (by rw [List.append_nil]; exact h1)
  · have k : Same H (upd H p (.tup (xs ++ ys))) := Same.put (Same.refl H) n
    exact q _ _ k (.tup (.inl (.inl upd_same)) (dpsSame k (dps_append dx dy)))
/-- an item of a tuple by data -/
theorem ix_dp {r : List PyData} {i : Nat} {d : PyData} (h : Dp K H x (.tuple r)) (e : r[i]? = some d) (q : ∀ v, Dp K H v d → Q v H) : rIxU K x (.int (i : Nat)) H Q := by
  obtain ⟨a, xs, rfl, sx, dx⟩ := dp_tup h
  obtain ⟨v, hv, hd⟩ := dps_at dx e
  exact ix_t sx (atI_nat hv) (q v hd)
theorem len_dp {r : List PyData} (h : Dp K H x (.tuple r)) (q : Q (.int r.length) H) : rLenU K [x] H Q := by
  obtain ⟨a, xs, rfl, sx, dx⟩ := dp_tup h
  exact len_t sx (by rw [dps_len dx]; exact q)
theorem ixN_nat {n j : Nat} (h : j < n) : ixN n (j : Int) = some j := by
  unfold ixN
  rw [if_pos (by omega), if_pos (by omega)]
  simp
theorem dps_set : ∀ {vs : List V} {ds : List PyData} {v : V} {d : PyData} (i : Nat), DpAll K H vs ds → Dp K H v d → DpAll K H (vs.set i v) (ds.set i d)
  | _, _, _, _, _, .nil, _ => .nil
  | _, _, _, _, 0, .cons _ t, hd => .cons hd t
  | _, _, _, _, i + 1, .cons h t, hd => .cons h (dps_set i t hd)
theorem inV_ints (z : Int) (ws : List Int) : inV (.int z) (ws.map V.int) = decide (z ∈ ws) := by
  unfold inV
  rw [List.any_map]
  induction ws with
  | nil => rfl
  | cons y ys ih =>
    rw [List.any_cons, ih]
    have e : ((fun y => eqV y (V.int z)) ∘ V.int) y = decide (y = z) := by
      show (y == z) = decide (y = z)
      rfl
    rw [e]
    by_cases c : y = z
    · simp [c]
    · have c' : ¬ z = y := fun q => c q.symm
      simp [c, c']
theorem flat_ints (ws : List Int) : (ws.map V.int).all flatV = true := by
  rw [List.all_map]
  exact List.all_eq_true.mpr fun _ _ => rfl
/-- a comprehension over enumerate of a tuple, with a test -/
theorem lcEt {a : Addr} {ta : TA} {σ : L2.St} {g : TG} {tt : TT} {te : TE} {vs : List Nat} (ht : ∀ Q : List V → Hp → Prop, Q [.ref a] H → ta σ H Q) (hs : ∀ H', Same H H' → SqT K H' a xs) (few : xs.length < sizeLine) (F : Nat → List V) (h0 : F 0 = []) (fl : ∀ i, (F i).length ≤ i)
    (step : ∀ D acc i x H' T (N : Bool → V → Hp → Prop), xs[i]? = some x → H D = none → H' D = some (.lst acc) → acc = F i → Same H H' → H' T = some (.tup [.int (i : Nat), x]) →
      (∀ H4, Same H' H4 → F (i + 1) = F i → N false .non H4) → (∀ y H4, Same H' H4 → F (i + 1) = F i ++ [y] → N true y H4) →
      g (.ref T) (wipe σ vs) H' fun σ2 H2 => wipe σ2 vs = wipe σ vs ∧ tt σ2 H2 fun b H3 => if b = true then te σ2 H3 fun y H4 => N true y H4 else N false .non H3)
    (hd : ∀ D H', H D = none → Same H H' → H' D = some (.lst (F xs.length)) → Q (.ref D) H') :
    tLc (fun σ H R => iEnum K ta σ H R ∨ iEnumT K ta σ H R) g tt te vs σ H Q := by
  refine lcAny walkEt (fun R r => .inr (ht _ ⟨a, xs, rfl, hs H (Same.refl H), r⟩)) (fun D i H' => Same H H' ∧ H' D = some (.lst (F i))) (fun D nD => ⟨(Same.put (Same.refl H) nD), by rw [h0]; exact upd_same⟩) (fun D i H' _ q => hs H' q.1) ?_ ?_
  · rintro D nD i x H1 H' hi ⟨k1, e1⟩ y
    obtain ⟨T, u, v, rfl, n, rfl, e1', e2⟩ := y
    cases e1'
    have nT : T ≠ D := fun z => by rw [z, e1] at n; cases n
    have k2 : Same H1 (upd H1 T (.tup [.int (i : Nat), v])) := Same.put (Same.refl _) n
    have eD : upd H1 T (.tup [.int (i : Nat), v]) D = some (.lst (F i)) := by rw [upd_ne (Ne.symm nT)]; exact e1
    have l := fl i
    have := step D (F i) i v _ T (fun b y H4 => if b = true then (∃ acc, H4 D = some (.lst acc) ∧ acc.length < sizeLine ∧ (Same H (upd H4 D (.lst (acc ++ [y]))) ∧ upd H4 D (.lst (acc ++ [y])) D = some (.lst (F (i + 1))))) else (Same H H4 ∧ H4 D = some (.lst (F (i + 1))))) e2 nD eD rfl (k1.trans k2) upd_same ?_ ?_
    · exact this
    · intro H4 k4 e
      exact ⟨(k1.trans k2).trans k4, by rw [e]; exact k4 _ _ eD⟩
    · intro y H4 k4 e
      refine ⟨F i, k4 _ _ eD, by omega, fun b o q => ?_, by rw [e]; exact upd_same⟩
      rw [upd_ne (ne_of_none q nD)]
      exact k4 _ _ ((k1.trans k2) _ _ q)
  · rintro D nD H' ⟨k, e⟩
    exact hd D H' nD k e
end Ld

set_option Elab.async false
set_option linter.all false
set_option maxRecDepth 100000
set_option maxHeartbeats 2000000
/-! An own error class over another one over ValueError, whose __init__ calls super().__init__ with a text and keeps its one argument as index: made, raised, its field read. -/
namespace Ld
namespace LowIndex
open PySem PySem.W PySem.Calls PyProof.Rows PySem.HandSPX
/-! ### the text of __init__ -/
def tA (p1 p2 : Pos) : Arguments := { posonlyargs := [], args := [{ arg := "self", annotation := none, pos := p1 }, { arg := "index", annotation := none, pos := p2 }], vararg := none, kwonlyargs := [], kw_defaults := [], kwarg := none, defaults := [] }
def tB (txt : Str) (a1 a2 a3 a4 a5 a6 b1 b2 b3 b4 : Pos) : List Stmt := [.Expr (.Call (.Attribute (.Call (.Name "super" a1) [] [] a2) "__init__" a3) [.Constant (.str txt) 0 a4] [] a5) a6, .Assign [.Attribute (.Name "self" b1) "index" b2] (.Name "index" b3) b4]
def tS : Scope := { kind := .function, names := [(PySem.Str.ofString "self", .local), (PySem.Str.ofString "index", .local), (PySem.Str.ofString "__class__", .free), (PySem.Str.ofString "super", .globalImplicit)], isGenerator := false, isCoroutine := false, more := [] }
/-- super().__init__(txt) is a method's call, whatever stands around -/
def CallForm (txt : Str) (a1 a2 a3 a4 a5 : Pos) : Prop := ∀ env : Env, ∃ pl : Sem Bool, eval (.Call (.Attribute (.Call (.Name "super" a1) [] [] a2) "__init__" a3) [.Constant (.str txt) 0 a4] [] a5) env = (do
  let ov ← attributeBase (.Call (.Name "super" a1) [] [] a2) "__init__" env (eval (.Call (.Name "super" a1) [] [] a2) env)
  standAt a3.atName
  let (f, first) ← holding [ov] (getMethod ov "__init__" pl)
  callWith a5 f first (backTo a5 (starEach [.Constant (.str txt) 0 a4] env)) [])
/-- what the written part says of the class at C, and of its __init__, at fI -/
structure Txt (prog : Program) (K : Frag) (mg : Str → Option Value) (C fI : Addr) : Prop where
  cls : ∃ nm q N bs bm sn sub ab col dd k0 k1 k2 k3 k5, K.lookup C = some (excClassObj nm q C N bs bm true sn sub ab col dd k0 k1 k2 k3 k5 "ValueError.__new__") ∧ refsVE bm = true
  inI : excInitIn K C veTail "ValueError.__new__" = true
  sa : findIn K (.ref C) "__setattr__" = some (some (.builtin "object.__setattr__"))
  ga : findIn K (.ref C) "__getattribute__" = some (some (.builtin "BaseException.__getattribute__"))
  gg : findIn K (.ref C) "__getattr__" = some none
  noN : findIn K (.ref C) "index" = some none
  iC : findIn K (.ref C) "__init__" = some (some (.ref fI))
  tC : typeIn K (.ref fI) = some (.type "function")
  kC : keepIn K (.ref C) = true
  exC : subIn K (.ref C) (.type "BaseException") = some true
  exV : subIn K (.ref C) (.type "ValueError") = some true
  tyC : typeIn K (.ref C) = some (.type "type")
  hdC : hasDictIn K C = true
  mro : mroIn K C (.ref C) = some true
  sup : mg "super" = none
  above : ks_superIn K C C "__init__" = some (some (.builtin "ValueError.__init__"))
  opq : nsIn K cStatics "thirdparty.any" = some none
  htop : (prog.main.scope.names.lookup ("super" : Str)).isSome = false
  fn : ∃ (oc : Value) (od : Option Addr) (doc pm : Value) (an : Option Addr) (cda cc : Addr) (ct : Value) (osl : Array (Option Value)) (qual txt : Str) (p1 p2 a1 a2 a3 a4 a5 a6 b1 b2 b3 b4 : Pos) (ccl cl : Value) (cdd cld : Option Addr) (vs : Array Value) (ccs csl : Array (Option Value)) (file : Str) (tf : Tok),
    K.lookup fI = some ⟨oc, od, .func (ksFn "__init__" qual (tA p1 p2) (tB txt a1 a2 a3 a4 a5 a6 b1 b2 b3 b4) tS .none .none doc pm an (.ref cda) ct cc), osl⟩ ∧ codeIn K (.ref cda) qual = true ∧ K.lookup cda = some ⟨ccl, cdd, .fields vs, ccs⟩ ∧ vs[2]? = some (.str file tf) ∧
      ((prog.main.file : Str) == file) = true ∧ K.lookup cc = some ⟨cl, cld, .cell (some (.ref C)), csl⟩ ∧ CallForm txt a1 a2 a3 a4 a5
/-- what __init__ leaves of a fresh exception at x -/
structure InitEnd (h h' : Heap) (x C dx t1 : Addr) (v : Value) : Prop where
  keep : ∀ b o, b ≠ x → h.get? b = some o → h'.get? b = some o
  obj : h'.get? x = some { cls := .ref C, dict := some dx, data := .fields #[.ref t1, .none, .none, .none, .bool false, .none] }
  dbig : h.objs.size ≤ dx
  dne : dx ≠ x
  ns : h'.Ns1 dx (fun y => if y = "index" then some v else none)
section
variable {prog : Program} {w : World} {A : Around} {E : Value → Shared → Prop} {R : Result → Shared → Prop} {s : Shared} {K : Frag} {mg mb : Str → Option Value} {C fI : Addr}
theorem low_init (T : Txt prog K mg C fI) {x t0 : Addr} {v : Value} (X : K.In s.heap) (hg : s.heap.Ns mainGlobals mg) (hb : s.heap.Ns builtinsNs mb) (hbb : ∀ x : Str, x ≠ "__name__" → mb x = bootBuiltins x) (hlim : s.heap.NoLimit) (hx : s.heap.get? x = some (excO C t0)) (hnx : K.lookup x = none)
    (nx1 : x ≠ mainGlobals) (nx2 : x ≠ builtinsNs) (hroom : A.depth < recursionLimit)
    (hq : ∀ h' tk dx t1, InitEnd s.heap h' x C dx t1 v → R (.ok (.ret .none)) { s with heap := h', toks := tk }) :
    codeAny (model prog w) A (.call (.ref fI) ⟨[.ref x, v], []⟩) R s := by
  obtain ⟨oc, od, doc, pm, an, cda, cc, ct, osl, qual, txt, p1, p2, a1, a2, a3, a4, a5, a6, b1, b2, b3, b4, ccl, cl, cdd, cld, vs, ccs, csl, file, tf, ho, hcd, hcda, hvs, hfile, hcc, hform⟩ := T.fn
  obtain ⟨nm, q, N, bs, bm, sn, sub, ab, col, dd, k0, k1, k2, k3, k5, hC, hbm⟩ := T.cls
  have hcl : clsIn K C = some { name := nm, bases := bs, mro := .ref C :: bm, ns := N, qualname := q, hasDict := true, slotNames := sn, subclasses := sub, abstract := ab, collection := col, hasDel := false } := by unfold clsIn; rw [hC] <;> rfl
  refine ks_codeAny_call_defAt (fd := ksFn "__init__" qual (tA p1 p2) (tB txt a1 a2 a3 a4 a5 a6 b1 b2 b3 b4) tS .none .none doc pm an (.ref cda) ct cc) (body := tB txt a1 a2 a3 a4 a5 a6 b1 b2 b3 b4) (binds := [("self", .ref x), ("index", v)]) hroom (X _ _ ho) rfl hlim (codeRec_of X hcd) rfl (BindsTo.of_eq (by first | rfl | with_unfolding_all rfl)) (show ∀ y ∈ tS.names, y.2 ≠ .cell by decide) (fun y hy => by
    rcases List.mem_cons.mp hy with rfl | hy
    · rfl
    · rw [List.mem_singleton.mp hy]
      rfl) (fun h₁ hns kp => ?_)
  have hL : s.heap.objs.size < h₁.objs.size := hns.lt
  have hxL : x ≠ s.heap.objs.size := Nat.ne_of_lt (Heap.lt_size hx)
  have X1 : K.In h₁ := X.keeps kp
  have hx1 := kp _ _ hx
  have I1 : InstAt h₁ x (excO C t0) C none := ⟨hx1, rfl, rfl, trivial⟩
  show _root_.PySem.wpAt (model prog w) _ (.func _ (ksEnv qual tS s.heap.objs.size fI (.ref cda) cc)) (execs (tB txt a1 a2 a3 a4 a5 a6 b1 b2 b3 b4) (ksEnv qual tS s.heap.objs.size fI (.ref cda) cc)) _ _ _
  have ms : (fun y => List.lookup y [(PySem.Str.ofString "self", Value.ref x), (PySem.Str.ofString "index", v)].reverse) "self" = some (.ref x) := by rfl
  have mf : (fun y => List.lookup y [(PySem.Str.ofString "self", Value.ref x), (PySem.Str.ofString "index", v)].reverse) "index" = some v := by rfl
  obtain ⟨oD, hD1, hD2⟩ : ∃ oD, h₁.get? C = some oD ∧ oD.data = .cls { name := nm, bases := bs, mro := .ref C :: bm, ns := N, qualname := q, hasDict := true, slotNames := sn, subclasses := sub, abstract := ab, collection := col, hasDel := false } := ⟨_, X1 _ _ hC, rfl⟩
  -- super().__init__(txt)
  obtain ⟨pl, he⟩ := hform (ksEnv qual tS s.heap.objs.size fI (.ref cda) cc)
  refine ks_wpAt_execs_cons (ks_wpAt_Expr_any (ks_wpAt_MethodCall (pl := pl) ?_ he))
  refine ks_wpAt_super_base (env := ksEnv qual tS s.heap.objs.size fI (.ref cda) cc) rfl rfl rfl rfl (X1 _ _ ho) rfl (ar := { arg := "self", annotation := none, pos := p1 }) rfl rfl (X1 _ _ hcda) rfl hvs hfile T.htop ?_
  refine ks_loadName_global rfl rfl (loadGlobal_builtin (env := ksEnv qual tS s.heap.objs.size fI (.ref cda) cc) (hg.keeps kp) T.sup (hb.keeps kp) ((hbb _ (by decide)).trans (by decide +kernel)) ⟨rfl, ?_⟩)
  refine wpAny_loadName_free rfl rfl rfl ⟨_, X1 _ _ hcc, rfl⟩ ?_
  refine wpAny_loadName_local rfl rfl hns ms ?_
  refine ks_wpAny_isType_cls hD1 hD2 ⟨rfl, ?_⟩
  refine ks_wpAny_call_super hD1 hD2 hx1 rfl (fun c e => by cases e) (looks_mroIn X1 T.mro) (fun h2 e2 k2 => ?_)
  have X2 : K.In h2 := X1.keeps k2
  have I2 : InstAt h2 x (excO C t0) C none := ⟨k2 _ _ hx1, rfl, rfl, trivial⟩
  have ab := T.above
  unfold ks_superIn at ab
  rw [hcl, Option.bind_some] at ab
  refine kxs_getMethod kxs_ValueError e2 (looks_opaque X2 T.opq) (l₀ := .ref C :: bm) ((looks_clsIn X2 hcl).andThen .now) rfl X2 ab (I2.type.andThen (looks_subIn X2 T.exV)) (ks_ne X2 I2 hcl) (by decide) ?_
  show wpAny _ _ (callWith a5 (.ref h2.objs.size) [] (backTo a5 (starEach [.Constant (.str txt) 0 a4] (ksEnv qual tS s.heap.objs.size fI (.ref cda) cc))) []) _ _ _
  have hu : (h2.push (kxs_mw "ValueError.__init__" x)).get? h2.objs.size = some (kxs_mw "ValueError.__init__" x) := Heap.get?_push_size _ rfl
  have k3 : ∀ b o, h₁.get? b = some o → (h2.push (kxs_mw "ValueError.__init__" x)).get? b = some o := fun b o e => Heap.get?_push_of_some _ (k2 b o e)
  refine kxs_callWith (i := "ValueError.__init__") (x := x) rfl ?_
  show wpAny _ _ (evalArgs _ true ((false, eval (.Constant (.str txt) 0 a4) (ksEnv qual tS s.heap.objs.size fI (.ref cda) cc)) :: []) []) _ _ _
  refine evalArgs_plain (spliced_cons (Constant_str (spliced_nil ⟨hu, ?_⟩)))
  show wpAny _ _ (call (.ref h2.objs.size) [.str txt _]) _ _ _
  -- the ground: the heap ahead of the call, but for the exception itself
  have g1 : ∀ b o, b ≠ x → s.heap.get? b = some o → (hideAll s.heap [x]).get? b = some o := fun b o nb e => hideAll_get _ e (by simpa using nb)
  have gx : (hideAll s.heap [x]).get? x = none := hideAll_none _ (by simp)
  have XG : K.In (hideAll s.heap [x]) := fun a o e => g1 a o (fun z => by rw [z, hnx] at e; cases e) (X a o e)
  have F3 : Fr (hideAll s.heap [x]) s.heap.objs.size (h2.push (kxs_mw "ValueError.__init__" x)) (fun y => List.lookup y [(PySem.Str.ofString "self", Value.ref x), (PySem.Str.ofString "index", v)].reverse) :=
    ⟨hns.keeps k3, fun b o e => k3 b o (kp b o (of_hideAll _ e)), Nat.le_of_eq (hideAll_size _ _)⟩
  have nu : h2.objs.size ≠ x := Nat.ne_of_gt (Heap.lt_size (k2 _ _ hx1))
  have big : s.heap.objs.size < h2.objs.size := by
    obtain ⟨o, _, _, e, _⟩ := hns
    exact Heap.lt_size (k2 _ _ e)
  have N3 : News (hideAll s.heap [x]) s.heap.objs.size (h2.push (kxs_mw "ValueError.__init__" x)) [(h2.objs.size, kxs_mw "ValueError.__init__" x), (x, excObj C t0 none .none)] := fun p hp => by
    rcases List.mem_cons.mp hp with rfl | hp
    · refine ⟨hu, Nat.ne_of_gt big, ?_⟩
      exact Heap.get?_none_of_le (by rw [hideAll_size]; exact Nat.le_of_lt big)
    · rw [List.mem_singleton.mp hp]
      exact ⟨k3 _ _ hx1, hxL, gx⟩
  refine kxs_call (x := x) (t := t0) (dv := none) (c2 := .none) (nw := fun o' => [(h2.objs.size, kxs_mw "ValueError.__init__" x), (x, o')]) F3 XG N3 F.excBase_ValueError T.inI (by simp) (.tail nu (.head fun _ z => nomatch z)) (by show 1 ≤ sizeLine; decide) fun t1 h4 F4 N4 _ => ?_
  have hx4 : h4.get? x = some (excObj C t1 none .none) := (N4 (x, excObj C t1 none .none) (by simp)).1
  have X4 : K.In h4 := fun a o e => F4.keep a o (XG a o e)
  have z4 : s.heap.objs.size < h4.objs.size := F4.ns.lt
  show _root_.PySem.wpAt _ _ _ (execs (.Assign [.Attribute (.Name "self" b1) "index" b2] (.Name "index" b3) b4 :: []) (ksEnv qual tS s.heap.objs.size fI (.ref cda) cc)) _ _ _
  refine wpAt_of_wpAny (wpAny_execs_cons (plainObj_wpAny_Assign_Attribute ?_))
  refine wpAny_Name (wpAny_loadName_local rfl rfl F4.ns mf ?_) (by decide)
  refine wpAny_Name (wpAny_loadName_local rfl rfl F4.ns ms ?_) (by decide)
  refine set_plain X4 (ox := excObj C t1 none .none) (od := none) ⟨hx4, rfl, rfl, trivial⟩ T.sa ?_
  refine exc_osa X4 hx4 hcl (show refsVE (.ref C :: bm) = true from hbm) rfl T.noN (fun h5 tk5 dx kk dn dne hx5 hn5 => ?_)
  exact wpAny_execs_nil (hq h5 tk5 dx t1 ⟨fun b o nb e => kk b o nb (F4.keep b o (g1 b o nb e)), hx5, Nat.le_of_lt (Nat.lt_of_lt_of_le z4 dn), dne, hn5⟩)
/-- a made one -/
structure OwnMade (h h' : Heap) (e C d : Addr) (v : Value) : Prop where
  keep : ∀ b o, h.get? b = some o → h'.get? b = some o
  new : h.objs.size ≤ e
  obj : ∃ oe vs, h'.get? e = some oe ∧ oe.cls = .ref C ∧ oe.dict = some d ∧ oe.data = .fields vs ∧ vs[1]? = some .none
  dbig : h.objs.size ≤ d
  dne : d ≠ e
  ns : h'.Ns1 d (fun y => if y = "index" then some v else none)
theorem low_made (T : Txt prog K mg C fI) {v : Value} (X : K.In s.heap) (hg : s.heap.Ns mainGlobals mg) (hb : s.heap.Ns builtinsNs mb) (hbb : ∀ x : Str, x ≠ "__name__" → mb x = bootBuiltins x) (hlim : s.heap.NoLimit) (hroom : A.depth + 1 < recursionLimit)
    (hq : ∀ h' tk e d, OwnMade s.heap h' e C d v → R (.ok (.ret (.ref e))) { s with heap := h', toks := tk }) :
    codeAny (model prog w) A (.call (.ref C) ⟨[v], []⟩) R s := by
  obtain ⟨nm, q, N, bs, bm, sn, sub, ab, col, dd, k0, k1, k2, k3, k5, hC, hbm⟩ := T.cls
  obtain ⟨hp, g, dr, tk, os⟩ := s
  have k : ∀ b o, hp.get? b = some o → ((hp.push (kdv_tup [v])).push (excO C hp.objs.size)).get? b = some o := fun b o e => Heap.get?_push_of_some _ (Heap.get?_push_of_some _ e)
  have hget : ((hp.push (kdv_tup [v])).push (excO C hp.objs.size)).get? (hp.objs.size + 1) = some (excO C hp.objs.size) := by heap_get
  have hnx : K.lookup (hp.objs.size + 1) = none := by
    cases e : K.lookup (hp.objs.size + 1) with
    | none => rfl
    | some o =>
      have z : hp.get? (hp.objs.size + 1) = some o := X _ _ e
      exact absurd (Nat.lt_of_succ_lt (Heap.lt_size z)) (Nat.lt_irrefl _)
  have zg : mainGlobals < hp.objs.size := Heap.Ns.lt hg
  have zb : builtinsNs < hp.objs.size := Heap.Ns.lt hb
  have n1 : hp.objs.size + 1 ≠ mainGlobals := fun e => absurd (Nat.lt_succ_of_lt zg) (by rw [← e]; exact Nat.lt_irrefl _)
  have n2 : hp.objs.size + 1 ≠ builtinsNs := fun e => absurd (Nat.lt_succ_of_lt zb) (by rw [← e]; exact Nat.lt_irrefl _)
  refine call_own F.excBase_ValueError (fun X => refsVE_contains X bm hbm) (X _ _ hC) (looks_findIn X T.iC) (fun self => bind_fn X self T.tC) (by show 1 ≤ sizeLine; rw [sizeLine_eq]; omega) ?_
  refine low_init (mb := mb) (s := ⟨(hp.push (kdv_tup [v])).push (excO C hp.objs.size), g, dr, tk, os⟩) T (X.keeps k) (hg.keeps k) (hb.keeps k) hbb (hlim.keeps k) hget hnx n1 n2 ?_ fun h' tk' dx t1 ⟨k', hx, dn, dne, hns⟩ => ?_
  · show A.depth + 1 < recursionLimit
    exact hroom
  · have old : ∀ b o, hp.get? b = some o → h'.get? b = some o := fun b o e => k' b o (Nat.ne_of_lt (Nat.lt_succ_of_lt (Heap.lt_size e))) (k b o e)
    have z : hp.objs.size + 1 + 1 ≤ dx := by
      first
        | (simpa only [Heap.size_push] using dn)
        | exact dn
        | (have q := dn; rw [Heap.size_push, Heap.size_push] at q; exact q)
    exact ⟨rfl, hq h' tk' (hp.objs.size + 1) dx ⟨old, Nat.le_succ _, ⟨_, _, hx, rfl, rfl, rfl, rfl⟩, Nat.le_trans (Nat.le_trans (Nat.le_succ _) (Nat.le_succ _)) z, dne, hns⟩⟩
end
end LowIndex
namespace LowIndex
open PySem PySem.Spec PyProof.Rows L2
section
variable {X : Cx} {C fI : Addr} {W : WX}
theorem pmk {a : Expr} {ta : TA} {nm : Str} {p pos : Pos} {k : Nat} (T : Txt X.prog X.K X.mg C fI) (gC : X.mg nm = some (.ref C)) (hr : Room k X.A) (ha : PA X [a] ta) (hg : Gl X nm := by rfl) (hdb : (nm == ("__debug__" : Str)) = false := by decide)
    (he : starEach (a :: []) X.env = (false, eval a X.env) :: starEach [] X.env := by rfl) (hpl : (backTo pos (starEach [] X.env)).any (·.1) = false := by rfl) :
    PMk X (.Call (.Name nm p) [a] [] pos) (tMkF C "index" ta) := by
  intro pins s σ H Q I h
  refine wpAny_Call_Name_kw (ld_glob I hg gC ?_ hdb)
  refine PySem.W.callWith_K (h₀ := X.base) I.ok.mod.kin T.kC (thn (ha.run pos pins s σ H _ I h) fun us s1 hh => ?_) he hpl
  obtain ⟨vs, H1, I1, r1, v, ev, q1⟩ := hh
  subst ev
  refine ⟨I1.kIn, ?_⟩
  cases r1 with
  | cons rv rn =>
    rename_i v' us'
    cases rn
    show wpAny _ _ (call (.ref C) [v']) _ _ _
    have hlim := I1.nolimit
    have hgl := I1.mod.glob.keeps I1.bk
    obtain ⟨mb, hb0, hbb⟩ := I1.mod.blt
    have hbl := hb0.keeps I1.bk
    obtain ⟨hp, g, dr, tk, os⟩ := s1
    refine wpAny_call (low_made (mb := mb) T I1.kIn hgl hbl hbb hlim (by have := hr.dp; omega) fun h' tk' e d M => ?_)
    show MkP X pins σ Q (.ref e) ⟨h', g, dr, tk', os⟩
    obtain ⟨oe, fv, hoe, hc, hd, hdat, h1⟩ := M.obj
    have hns := M.ns
    obtain ⟨G', g1, g2⟩ := restrict h' fun b => decide (b ≠ e)
    have gk : ∀ b, b ≠ e → G'.get? b = h'.get? b := fun b hb => g1 b (decide_eq_true hb)
    have ge : G'.get? e = none := g2 e (by simp)
    have old : ∀ b o, hp.get? b = some o → G'.get? b = some o := fun b o q => (gk b (Nat.ne_of_lt (Nat.lt_of_lt_of_le (Heap.lt_size q) M.new))).trans (M.keep b o q)
    have ob : ObjOk X.prog X.w (upd H1 d (.xd [(("index" : Str), v)])) G' d (.xd [(("index" : Str), v)]) :=
      ⟨_, hns.at (fun o q => (gk d M.dne).trans q), fun f => relO_one rv f⟩
    have J : Inv X pins σ (upd H1 d (.xd [(("index" : Str), v)])) ⟨G', g, dr, tk', os⟩ := I1.laid (t' := tk') old M.dbig ob
    refine ⟨e, oe, fv, ⟨G', g, dr, tk', os⟩, _, .ref C, some d, rfl, J, fun b o q => ?_, ge, hoe, ⟨hc, hd⟩, hdat, h1, ?_, rfl, I1.bare, raises_own T.exC T.tyC, q1 d (I1.hok.fresh M.dbig)⟩
    · by_cases hb : b = e
      · have q' : G'.get? b = some o := q
        rw [hb, ge] at q'; cases q'
      · exact (gk b hb).symm.trans q
    · rw [upd_ne (Ne.symm M.dne)]
      exact I1.hok.fresh M.new
theorem ps_raise {a : Expr} {ta : TA} {nm : Str} {p pos pos2 : Pos} {k : Nat} (hc : X.calm = true) (T : Txt X.prog X.K X.mg C fI) (gC : X.mg nm = some (.ref C)) (hr : Room k X.A) (tk : Takes X W) (ha : PA X [a] ta) (hg : Gl X nm := by rfl) (hdb : (nm == ("__debug__" : Str)) = false := by decide)
    (he : starEach (a :: []) X.env = (false, eval a X.env) :: starEach [] X.env := by rfl) (hpl : (backTo pos (starEach [] X.env)).any (·.1) = false := by rfl) :
    PS X (.Raise (some (.Call (.Name nm p) [a] [] pos)) none pos2) (tRaiseF C "index" W ta) := L2.ps_raise hc tk (pmk T gC hr ha hg hdb he hpl)
end
end LowIndex
end Ld

set_option Elab.async false
set_option linter.all false
set_option maxRecDepth 100000
set_option maxHeartbeats 2000000
/-! An own error class over another one over ValueError, whose __init__ calls super().__init__ with a text and keeps its one argument as name: made, raised, its field read. -/
namespace Ld
namespace LowName
open PySem PySem.W PySem.Calls PyProof.Rows PySem.HandSPX
/-! ### the text of __init__ -/
def tA (p1 p2 : Pos) : Arguments := { posonlyargs := [], args := [{ arg := "self", annotation := none, pos := p1 }, { arg := "name", annotation := none, pos := p2 }], vararg := none, kwonlyargs := [], kw_defaults := [], kwarg := none, defaults := [] }
def tB (txt : Str) (a1 a2 a3 a4 a5 a6 b1 b2 b3 b4 : Pos) : List Stmt := [.Expr (.Call (.Attribute (.Call (.Name "super" a1) [] [] a2) "__init__" a3) [.Constant (.str txt) 0 a4] [] a5) a6, .Assign [.Attribute (.Name "self" b1) "name" b2] (.Name "name" b3) b4]
def tS : Scope := { kind := .function, names := [(PySem.Str.ofString "self", .local), (PySem.Str.ofString "name", .local), (PySem.Str.ofString "__class__", .free), (PySem.Str.ofString "super", .globalImplicit)], isGenerator := false, isCoroutine := false, more := [] }
/-- super().__init__(txt) is a method's call, whatever stands around -/
def CallForm (txt : Str) (a1 a2 a3 a4 a5 : Pos) : Prop := ∀ env : Env, ∃ pl : Sem Bool, eval (.Call (.Attribute (.Call (.Name "super" a1) [] [] a2) "__init__" a3) [.Constant (.str txt) 0 a4] [] a5) env = (do
  let ov ← attributeBase (.Call (.Name "super" a1) [] [] a2) "__init__" env (eval (.Call (.Name "super" a1) [] [] a2) env)
  standAt a3.atName
  let (f, first) ← holding [ov] (getMethod ov "__init__" pl)
  callWith a5 f first (backTo a5 (starEach [.Constant (.str txt) 0 a4] env)) [])
/-- what the written part says of the class at C, and of its __init__, at fI -/
structure Txt (prog : Program) (K : Frag) (mg : Str → Option Value) (C fI : Addr) : Prop where
  cls : ∃ nm q N bs bm sn sub ab col dd k0 k1 k2 k3 k5, K.lookup C = some (excClassObj nm q C N bs bm true sn sub ab col dd k0 k1 k2 k3 k5 "ValueError.__new__") ∧ refsVE bm = true
  inI : excInitIn K C veTail "ValueError.__new__" = true
  sa : findIn K (.ref C) "__setattr__" = some (some (.builtin "object.__setattr__"))
  ga : findIn K (.ref C) "__getattribute__" = some (some (.builtin "BaseException.__getattribute__"))
  gg : findIn K (.ref C) "__getattr__" = some none
  noN : findIn K (.ref C) "name" = some none
  iC : findIn K (.ref C) "__init__" = some (some (.ref fI))
  tC : typeIn K (.ref fI) = some (.type "function")
  kC : keepIn K (.ref C) = true
  exC : subIn K (.ref C) (.type "BaseException") = some true
  exV : subIn K (.ref C) (.type "ValueError") = some true
  tyC : typeIn K (.ref C) = some (.type "type")
  hdC : hasDictIn K C = true
  mro : mroIn K C (.ref C) = some true
  sup : mg "super" = none
  above : ks_superIn K C C "__init__" = some (some (.builtin "ValueError.__init__"))
  opq : nsIn K cStatics "thirdparty.any" = some none
  htop : (prog.main.scope.names.lookup ("super" : Str)).isSome = false
  fn : ∃ (oc : Value) (od : Option Addr) (doc pm : Value) (an : Option Addr) (cda cc : Addr) (ct : Value) (osl : Array (Option Value)) (qual txt : Str) (p1 p2 a1 a2 a3 a4 a5 a6 b1 b2 b3 b4 : Pos) (ccl cl : Value) (cdd cld : Option Addr) (vs : Array Value) (ccs csl : Array (Option Value)) (file : Str) (tf : Tok),
    K.lookup fI = some ⟨oc, od, .func (ksFn "__init__" qual (tA p1 p2) (tB txt a1 a2 a3 a4 a5 a6 b1 b2 b3 b4) tS .none .none doc pm an (.ref cda) ct cc), osl⟩ ∧ codeIn K (.ref cda) qual = true ∧ K.lookup cda = some ⟨ccl, cdd, .fields vs, ccs⟩ ∧ vs[2]? = some (.str file tf) ∧
      ((prog.main.file : Str) == file) = true ∧ K.lookup cc = some ⟨cl, cld, .cell (some (.ref C)), csl⟩ ∧ CallForm txt a1 a2 a3 a4 a5
/-- what __init__ leaves of a fresh exception at x -/
structure InitEnd (h h' : Heap) (x C dx t1 : Addr) (v : Value) : Prop where
  keep : ∀ b o, b ≠ x → h.get? b = some o → h'.get? b = some o
  obj : h'.get? x = some { cls := .ref C, dict := some dx, data := .fields #[.ref t1, .none, .none, .none, .bool false, .none] }
  dbig : h.objs.size ≤ dx
  dne : dx ≠ x
  ns : h'.Ns1 dx (fun y => if y = "name" then some v else none)
section
variable {prog : Program} {w : World} {A : Around} {E : Value → Shared → Prop} {R : Result → Shared → Prop} {s : Shared} {K : Frag} {mg mb : Str → Option Value} {C fI : Addr}
theorem low_init (T : Txt prog K mg C fI) {x t0 : Addr} {v : Value} (X : K.In s.heap) (hg : s.heap.Ns mainGlobals mg) (hb : s.heap.Ns builtinsNs mb) (hbb : ∀ x : Str, x ≠ "__name__" → mb x = bootBuiltins x) (hlim : s.heap.NoLimit) (hx : s.heap.get? x = some (excO C t0)) (hnx : K.lookup x = none)
    (nx1 : x ≠ mainGlobals) (nx2 : x ≠ builtinsNs) (hroom : A.depth < recursionLimit)
    (hq : ∀ h' tk dx t1, InitEnd s.heap h' x C dx t1 v → R (.ok (.ret .none)) { s with heap := h', toks := tk }) :
    codeAny (model prog w) A (.call (.ref fI) ⟨[.ref x, v], []⟩) R s := by
  obtain ⟨oc, od, doc, pm, an, cda, cc, ct, osl, qual, txt, p1, p2, a1, a2, a3, a4, a5, a6, b1, b2, b3, b4, ccl, cl, cdd, cld, vs, ccs, csl, file, tf, ho, hcd, hcda, hvs, hfile, hcc, hform⟩ := T.fn
  obtain ⟨nm, q, N, bs, bm, sn, sub, ab, col, dd, k0, k1, k2, k3, k5, hC, hbm⟩ := T.cls
  have hcl : clsIn K C = some { name := nm, bases := bs, mro := .ref C :: bm, ns := N, qualname := q, hasDict := true, slotNames := sn, subclasses := sub, abstract := ab, collection := col, hasDel := false } := by unfold clsIn; rw [hC] <;> rfl
  refine ks_codeAny_call_defAt (fd := ksFn "__init__" qual (tA p1 p2) (tB txt a1 a2 a3 a4 a5 a6 b1 b2 b3 b4) tS .none .none doc pm an (.ref cda) ct cc) (body := tB txt a1 a2 a3 a4 a5 a6 b1 b2 b3 b4) (binds := [("self", .ref x), ("name", v)]) hroom (X _ _ ho) rfl hlim (codeRec_of X hcd) rfl (BindsTo.of_eq (by first | rfl | with_unfolding_all rfl)) (show ∀ y ∈ tS.names, y.2 ≠ .cell by decide) (fun y hy => by
    rcases List.mem_cons.mp hy with rfl | hy
    · rfl
    · rw [List.mem_singleton.mp hy]
      rfl) (fun h₁ hns kp => ?_)
  have hL : s.heap.objs.size < h₁.objs.size := hns.lt
  have hxL : x ≠ s.heap.objs.size := Nat.ne_of_lt (Heap.lt_size hx)
  have X1 : K.In h₁ := X.keeps kp
  have hx1 := kp _ _ hx
  have I1 : InstAt h₁ x (excO C t0) C none := ⟨hx1, rfl, rfl, trivial⟩
  show _root_.PySem.wpAt (model prog w) _ (.func _ (ksEnv qual tS s.heap.objs.size fI (.ref cda) cc)) (execs (tB txt a1 a2 a3 a4 a5 a6 b1 b2 b3 b4) (ksEnv qual tS s.heap.objs.size fI (.ref cda) cc)) _ _ _
  have ms : (fun y => List.lookup y [(PySem.Str.ofString "self", Value.ref x), (PySem.Str.ofString "name", v)].reverse) "self" = some (.ref x) := by rfl
  have mf : (fun y => List.lookup y [(PySem.Str.ofString "self", Value.ref x), (PySem.Str.ofString "name", v)].reverse) "name" = some v := by rfl
  obtain ⟨oD, hD1, hD2⟩ : ∃ oD, h₁.get? C = some oD ∧ oD.data = .cls { name := nm, bases := bs, mro := .ref C :: bm, ns := N, qualname := q, hasDict := true, slotNames := sn, subclasses := sub, abstract := ab, collection := col, hasDel := false } := ⟨_, X1 _ _ hC, rfl⟩
  -- super().__init__(txt)
  obtain ⟨pl, he⟩ := hform (ksEnv qual tS s.heap.objs.size fI (.ref cda) cc)
  refine ks_wpAt_execs_cons (ks_wpAt_Expr_any (ks_wpAt_MethodCall (pl := pl) ?_ he))
  refine ks_wpAt_super_base (env := ksEnv qual tS s.heap.objs.size fI (.ref cda) cc) rfl rfl rfl rfl (X1 _ _ ho) rfl (ar := { arg := "self", annotation := none, pos := p1 }) rfl rfl (X1 _ _ hcda) rfl hvs hfile T.htop ?_
  refine ks_loadName_global rfl rfl (loadGlobal_builtin (env := ksEnv qual tS s.heap.objs.size fI (.ref cda) cc) (hg.keeps kp) T.sup (hb.keeps kp) ((hbb _ (by decide)).trans (by decide +kernel)) ⟨rfl, ?_⟩)
  refine wpAny_loadName_free rfl rfl rfl ⟨_, X1 _ _ hcc, rfl⟩ ?_
  refine wpAny_loadName_local rfl rfl hns ms ?_
  refine ks_wpAny_isType_cls hD1 hD2 ⟨rfl, ?_⟩
  refine ks_wpAny_call_super hD1 hD2 hx1 rfl (fun c e => by cases e) (looks_mroIn X1 T.mro) (fun h2 e2 k2 => ?_)
  have X2 : K.In h2 := X1.keeps k2
  have I2 : InstAt h2 x (excO C t0) C none := ⟨k2 _ _ hx1, rfl, rfl, trivial⟩
  have ab := T.above
  unfold ks_superIn at ab
  rw [hcl, Option.bind_some] at ab
  refine kxs_getMethod kxs_ValueError e2 (looks_opaque X2 T.opq) (l₀ := .ref C :: bm) ((looks_clsIn X2 hcl).andThen .now) rfl X2 ab (I2.type.andThen (looks_subIn X2 T.exV)) (ks_ne X2 I2 hcl) (by decide) ?_
  show wpAny _ _ (callWith a5 (.ref h2.objs.size) [] (backTo a5 (starEach [.Constant (.str txt) 0 a4] (ksEnv qual tS s.heap.objs.size fI (.ref cda) cc))) []) _ _ _
  have hu : (h2.push (kxs_mw "ValueError.__init__" x)).get? h2.objs.size = some (kxs_mw "ValueError.__init__" x) := Heap.get?_push_size _ rfl
  have k3 : ∀ b o, h₁.get? b = some o → (h2.push (kxs_mw "ValueError.__init__" x)).get? b = some o := fun b o e => Heap.get?_push_of_some _ (k2 b o e)
  refine kxs_callWith (i := "ValueError.__init__") (x := x) rfl ?_
  show wpAny _ _ (evalArgs _ true ((false, eval (.Constant (.str txt) 0 a4) (ksEnv qual tS s.heap.objs.size fI (.ref cda) cc)) :: []) []) _ _ _
  refine evalArgs_plain (spliced_cons (Constant_str (spliced_nil ⟨hu, ?_⟩)))
  show wpAny _ _ (call (.ref h2.objs.size) [.str txt _]) _ _ _
  -- the ground: the heap ahead of the call, but for the exception itself
  have g1 : ∀ b o, b ≠ x → s.heap.get? b = some o → (hideAll s.heap [x]).get? b = some o := fun b o nb e => hideAll_get _ e (by simpa using nb)
  have gx : (hideAll s.heap [x]).get? x = none := hideAll_none _ (by simp)
  have XG : K.In (hideAll s.heap [x]) := fun a o e => g1 a o (fun z => by rw [z, hnx] at e; cases e) (X a o e)
  have F3 : Fr (hideAll s.heap [x]) s.heap.objs.size (h2.push (kxs_mw "ValueError.__init__" x)) (fun y => List.lookup y [(PySem.Str.ofString "self", Value.ref x), (PySem.Str.ofString "name", v)].reverse) :=
    ⟨hns.keeps k3, fun b o e => k3 b o (kp b o (of_hideAll _ e)), Nat.le_of_eq (hideAll_size _ _)⟩
  have nu : h2.objs.size ≠ x := Nat.ne_of_gt (Heap.lt_size (k2 _ _ hx1))
  have big : s.heap.objs.size < h2.objs.size := by
    obtain ⟨o, _, _, e, _⟩ := hns
    exact Heap.lt_size (k2 _ _ e)
  have N3 : News (hideAll s.heap [x]) s.heap.objs.size (h2.push (kxs_mw "ValueError.__init__" x)) [(h2.objs.size, kxs_mw "ValueError.__init__" x), (x, excObj C t0 none .none)] := fun p hp => by
    rcases List.mem_cons.mp hp with rfl | hp
    · refine ⟨hu, Nat.ne_of_gt big, ?_⟩
      exact Heap.get?_none_of_le (by rw [hideAll_size]; exact Nat.le_of_lt big)
    · rw [List.mem_singleton.mp hp]
      exact ⟨k3 _ _ hx1, hxL, gx⟩
  refine kxs_call (x := x) (t := t0) (dv := none) (c2 := .none) (nw := fun o' => [(h2.objs.size, kxs_mw "ValueError.__init__" x), (x, o')]) F3 XG N3 F.excBase_ValueError T.inI (by simp) (.tail nu (.head fun _ z => nomatch z)) (by show 1 ≤ sizeLine; decide) fun t1 h4 F4 N4 _ => ?_
  have hx4 : h4.get? x = some (excObj C t1 none .none) := (N4 (x, excObj C t1 none .none) (by simp)).1
  have X4 : K.In h4 := fun a o e => F4.keep a o (XG a o e)
  have z4 : s.heap.objs.size < h4.objs.size := F4.ns.lt
  show _root_.PySem.wpAt _ _ _ (execs (.Assign [.Attribute (.Name "self" b1) "name" b2] (.Name "name" b3) b4 :: []) (ksEnv qual tS s.heap.objs.size fI (.ref cda) cc)) _ _ _
  refine wpAt_of_wpAny (wpAny_execs_cons (plainObj_wpAny_Assign_Attribute ?_))
  refine wpAny_Name (wpAny_loadName_local rfl rfl F4.ns mf ?_) (by decide)
  refine wpAny_Name (wpAny_loadName_local rfl rfl F4.ns ms ?_) (by decide)
  refine set_plain X4 (ox := excObj C t1 none .none) (od := none) ⟨hx4, rfl, rfl, trivial⟩ T.sa ?_
  refine exc_osa X4 hx4 hcl (show refsVE (.ref C :: bm) = true from hbm) rfl T.noN (fun h5 tk5 dx kk dn dne hx5 hn5 => ?_)
  exact wpAny_execs_nil (hq h5 tk5 dx t1 ⟨fun b o nb e => kk b o nb (F4.keep b o (g1 b o nb e)), hx5, Nat.le_of_lt (Nat.lt_of_lt_of_le z4 dn), dne, hn5⟩)
/-- a made one -/
structure OwnMade (h h' : Heap) (e C d : Addr) (v : Value) : Prop where
  keep : ∀ b o, h.get? b = some o → h'.get? b = some o
  new : h.objs.size ≤ e
  obj : ∃ oe vs, h'.get? e = some oe ∧ oe.cls = .ref C ∧ oe.dict = some d ∧ oe.data = .fields vs ∧ vs[1]? = some .none
  dbig : h.objs.size ≤ d
  dne : d ≠ e
  ns : h'.Ns1 d (fun y => if y = "name" then some v else none)
theorem low_made (T : Txt prog K mg C fI) {v : Value} (X : K.In s.heap) (hg : s.heap.Ns mainGlobals mg) (hb : s.heap.Ns builtinsNs mb) (hbb : ∀ x : Str, x ≠ "__name__" → mb x = bootBuiltins x) (hlim : s.heap.NoLimit) (hroom : A.depth + 1 < recursionLimit)
    (hq : ∀ h' tk e d, OwnMade s.heap h' e C d v → R (.ok (.ret (.ref e))) { s with heap := h', toks := tk }) :
    codeAny (model prog w) A (.call (.ref C) ⟨[v], []⟩) R s := by
  obtain ⟨nm, q, N, bs, bm, sn, sub, ab, col, dd, k0, k1, k2, k3, k5, hC, hbm⟩ := T.cls
  obtain ⟨hp, g, dr, tk, os⟩ := s
  have k : ∀ b o, hp.get? b = some o → ((hp.push (kdv_tup [v])).push (excO C hp.objs.size)).get? b = some o := fun b o e => Heap.get?_push_of_some _ (Heap.get?_push_of_some _ e)
  have hget : ((hp.push (kdv_tup [v])).push (excO C hp.objs.size)).get? (hp.objs.size + 1) = some (excO C hp.objs.size) := by heap_get
  have hnx : K.lookup (hp.objs.size + 1) = none := by
    cases e : K.lookup (hp.objs.size + 1) with
    | none => rfl
    | some o =>
      have z : hp.get? (hp.objs.size + 1) = some o := X _ _ e
      exact absurd (Nat.lt_of_succ_lt (Heap.lt_size z)) (Nat.lt_irrefl _)
  have zg : mainGlobals < hp.objs.size := Heap.Ns.lt hg
  have zb : builtinsNs < hp.objs.size := Heap.Ns.lt hb
  have n1 : hp.objs.size + 1 ≠ mainGlobals := fun e => absurd (Nat.lt_succ_of_lt zg) (by rw [← e]; exact Nat.lt_irrefl _)
  have n2 : hp.objs.size + 1 ≠ builtinsNs := fun e => absurd (Nat.lt_succ_of_lt zb) (by rw [← e]; exact Nat.lt_irrefl _)
  refine call_own F.excBase_ValueError (fun X => refsVE_contains X bm hbm) (X _ _ hC) (looks_findIn X T.iC) (fun self => bind_fn X self T.tC) (by show 1 ≤ sizeLine; rw [sizeLine_eq]; omega) ?_
  refine low_init (mb := mb) (s := ⟨(hp.push (kdv_tup [v])).push (excO C hp.objs.size), g, dr, tk, os⟩) T (X.keeps k) (hg.keeps k) (hb.keeps k) hbb (hlim.keeps k) hget hnx n1 n2 ?_ fun h' tk' dx t1 ⟨k', hx, dn, dne, hns⟩ => ?_
  · show A.depth + 1 < recursionLimit
    exact hroom
  · have old : ∀ b o, hp.get? b = some o → h'.get? b = some o := fun b o e => k' b o (Nat.ne_of_lt (Nat.lt_succ_of_lt (Heap.lt_size e))) (k b o e)
    have z : hp.objs.size + 1 + 1 ≤ dx := by
      first
        | (simpa only [Heap.size_push] using dn)
        | exact dn
        | (have q := dn; rw [Heap.size_push, Heap.size_push] at q; exact q)
    exact ⟨rfl, hq h' tk' (hp.objs.size + 1) dx ⟨old, Nat.le_succ _, ⟨_, _, hx, rfl, rfl, rfl, rfl⟩, Nat.le_trans (Nat.le_trans (Nat.le_succ _) (Nat.le_succ _)) z, dne, hns⟩⟩
end
end LowName
namespace LowName
open PySem PySem.Spec PyProof.Rows L2
section
variable {X : Cx} {C fI : Addr} {W : WX}
theorem pmk {a : Expr} {ta : TA} {nm : Str} {p pos : Pos} {k : Nat} (T : Txt X.prog X.K X.mg C fI) (gC : X.mg nm = some (.ref C)) (hr : Room k X.A) (ha : PA X [a] ta) (hg : Gl X nm := by rfl) (hdb : (nm == ("__debug__" : Str)) = false := by decide)
    (he : starEach (a :: []) X.env = (false, eval a X.env) :: starEach [] X.env := by rfl) (hpl : (backTo pos (starEach [] X.env)).any (·.1) = false := by rfl) :
    PMk X (.Call (.Name nm p) [a] [] pos) (tMkF C "name" ta) := by
  intro pins s σ H Q I h
  refine wpAny_Call_Name_kw (ld_glob I hg gC ?_ hdb)
  refine PySem.W.callWith_K (h₀ := X.base) I.ok.mod.kin T.kC (thn (ha.run pos pins s σ H _ I h) fun us s1 hh => ?_) he hpl
  obtain ⟨vs, H1, I1, r1, v, ev, q1⟩ := hh
  subst ev
  refine ⟨I1.kIn, ?_⟩
  cases r1 with
  | cons rv rn =>
    rename_i v' us'
    cases rn
    show wpAny _ _ (call (.ref C) [v']) _ _ _
    have hlim := I1.nolimit
    have hgl := I1.mod.glob.keeps I1.bk
    obtain ⟨mb, hb0, hbb⟩ := I1.mod.blt
    have hbl := hb0.keeps I1.bk
    obtain ⟨hp, g, dr, tk, os⟩ := s1
    refine wpAny_call (low_made (mb := mb) T I1.kIn hgl hbl hbb hlim (by have := hr.dp; omega) fun h' tk' e d M => ?_)
    show MkP X pins σ Q (.ref e) ⟨h', g, dr, tk', os⟩
    obtain ⟨oe, fv, hoe, hc, hd, hdat, h1⟩ := M.obj
    have hns := M.ns
    obtain ⟨G', g1, g2⟩ := restrict h' fun b => decide (b ≠ e)
    have gk : ∀ b, b ≠ e → G'.get? b = h'.get? b := fun b hb => g1 b (decide_eq_true hb)
    have ge : G'.get? e = none := g2 e (by simp)
    have old : ∀ b o, hp.get? b = some o → G'.get? b = some o := fun b o q => (gk b (Nat.ne_of_lt (Nat.lt_of_lt_of_le (Heap.lt_size q) M.new))).trans (M.keep b o q)
    have ob : ObjOk X.prog X.w (upd H1 d (.xd [(("name" : Str), v)])) G' d (.xd [(("name" : Str), v)]) :=
      ⟨_, hns.at (fun o q => (gk d M.dne).trans q), fun f => relO_one rv f⟩
    have J : Inv X pins σ (upd H1 d (.xd [(("name" : Str), v)])) ⟨G', g, dr, tk', os⟩ := I1.laid (t' := tk') old M.dbig ob
    refine ⟨e, oe, fv, ⟨G', g, dr, tk', os⟩, _, .ref C, some d, rfl, J, fun b o q => ?_, ge, hoe, ⟨hc, hd⟩, hdat, h1, ?_, rfl, I1.bare, raises_own T.exC T.tyC, q1 d (I1.hok.fresh M.dbig)⟩
    · by_cases hb : b = e
      · have q' : G'.get? b = some o := q
        rw [hb, ge] at q'; cases q'
      · exact (gk b hb).symm.trans q
    · rw [upd_ne (Ne.symm M.dne)]
      exact I1.hok.fresh M.new
theorem ps_raise {a : Expr} {ta : TA} {nm : Str} {p pos pos2 : Pos} {k : Nat} (hc : X.calm = true) (T : Txt X.prog X.K X.mg C fI) (gC : X.mg nm = some (.ref C)) (hr : Room k X.A) (tk : Takes X W) (ha : PA X [a] ta) (hg : Gl X nm := by rfl) (hdb : (nm == ("__debug__" : Str)) = false := by decide)
    (he : starEach (a :: []) X.env = (false, eval a X.env) :: starEach [] X.env := by rfl) (hpl : (backTo pos (starEach [] X.env)).any (·.1) = false := by rfl) :
    PS X (.Raise (some (.Call (.Name nm p) [a] [] pos)) none pos2) (tRaiseF C "name" W ta) := L2.ps_raise hc tk (pmk T gC hr ha hg hdb he hpl)
end
end LowName
end Ld

set_option Elab.async false
set_option linter.all false
set_option maxRecDepth 100000
set_option maxHeartbeats 2000000
/-! An own error class over another one over ValueError, whose __init__ calls super().__init__ with a text and keeps its one argument as line: made, raised, its field read. -/
namespace Ld
namespace LowLine
open PySem PySem.W PySem.Calls PyProof.Rows PySem.HandSPX
/-! ### the text of __init__ -/
def tA (p1 p2 : Pos) : Arguments := { posonlyargs := [], args := [{ arg := "self", annotation := none, pos := p1 }, { arg := "line", annotation := none, pos := p2 }], vararg := none, kwonlyargs := [], kw_defaults := [], kwarg := none, defaults := [] }
def tB (txt : Str) (a1 a2 a3 a4 a5 a6 b1 b2 b3 b4 : Pos) : List Stmt := [.Expr (.Call (.Attribute (.Call (.Name "super" a1) [] [] a2) "__init__" a3) [.Constant (.str txt) 0 a4] [] a5) a6, .Assign [.Attribute (.Name "self" b1) "line" b2] (.Name "line" b3) b4]
def tS : Scope := { kind := .function, names := [(PySem.Str.ofString "self", .local), (PySem.Str.ofString "line", .local), (PySem.Str.ofString "__class__", .free), (PySem.Str.ofString "super", .globalImplicit)], isGenerator := false, isCoroutine := false, more := [] }
/-- super().__init__(txt) is a method's call, whatever stands around -/
def CallForm (txt : Str) (a1 a2 a3 a4 a5 : Pos) : Prop := ∀ env : Env, ∃ pl : Sem Bool, eval (.Call (.Attribute (.Call (.Name "super" a1) [] [] a2) "__init__" a3) [.Constant (.str txt) 0 a4] [] a5) env = (do
  let ov ← attributeBase (.Call (.Name "super" a1) [] [] a2) "__init__" env (eval (.Call (.Name "super" a1) [] [] a2) env)
  standAt a3.atName
  let (f, first) ← holding [ov] (getMethod ov "__init__" pl)
  callWith a5 f first (backTo a5 (starEach [.Constant (.str txt) 0 a4] env)) [])
/-- what the written part says of the class at C, and of its __init__, at fI -/
structure Txt (prog : Program) (K : Frag) (mg : Str → Option Value) (C fI : Addr) : Prop where
  cls : ∃ nm q N bs bm sn sub ab col dd k0 k1 k2 k3 k5, K.lookup C = some (excClassObj nm q C N bs bm true sn sub ab col dd k0 k1 k2 k3 k5 "ValueError.__new__") ∧ refsVE bm = true
  inI : excInitIn K C veTail "ValueError.__new__" = true
  sa : findIn K (.ref C) "__setattr__" = some (some (.builtin "object.__setattr__"))
  ga : findIn K (.ref C) "__getattribute__" = some (some (.builtin "BaseException.__getattribute__"))
  gg : findIn K (.ref C) "__getattr__" = some none
  noN : findIn K (.ref C) "line" = some none
  iC : findIn K (.ref C) "__init__" = some (some (.ref fI))
  tC : typeIn K (.ref fI) = some (.type "function")
  kC : keepIn K (.ref C) = true
  exC : subIn K (.ref C) (.type "BaseException") = some true
  exV : subIn K (.ref C) (.type "ValueError") = some true
  tyC : typeIn K (.ref C) = some (.type "type")
  hdC : hasDictIn K C = true
  mro : mroIn K C (.ref C) = some true
  sup : mg "super" = none
  above : ks_superIn K C C "__init__" = some (some (.builtin "ValueError.__init__"))
  opq : nsIn K cStatics "thirdparty.any" = some none
  htop : (prog.main.scope.names.lookup ("super" : Str)).isSome = false
  fn : ∃ (oc : Value) (od : Option Addr) (doc pm : Value) (an : Option Addr) (cda cc : Addr) (ct : Value) (osl : Array (Option Value)) (qual txt : Str) (p1 p2 a1 a2 a3 a4 a5 a6 b1 b2 b3 b4 : Pos) (ccl cl : Value) (cdd cld : Option Addr) (vs : Array Value) (ccs csl : Array (Option Value)) (file : Str) (tf : Tok),
    K.lookup fI = some ⟨oc, od, .func (ksFn "__init__" qual (tA p1 p2) (tB txt a1 a2 a3 a4 a5 a6 b1 b2 b3 b4) tS .none .none doc pm an (.ref cda) ct cc), osl⟩ ∧ codeIn K (.ref cda) qual = true ∧ K.lookup cda = some ⟨ccl, cdd, .fields vs, ccs⟩ ∧ vs[2]? = some (.str file tf) ∧
      ((prog.main.file : Str) == file) = true ∧ K.lookup cc = some ⟨cl, cld, .cell (some (.ref C)), csl⟩ ∧ CallForm txt a1 a2 a3 a4 a5
/-- what __init__ leaves of a fresh exception at x -/
structure InitEnd (h h' : Heap) (x C dx t1 : Addr) (v : Value) : Prop where
  keep : ∀ b o, b ≠ x → h.get? b = some o → h'.get? b = some o
  obj : h'.get? x = some { cls := .ref C, dict := some dx, data := .fields #[.ref t1, .none, .none, .none, .bool false, .none] }
  dbig : h.objs.size ≤ dx
  dne : dx ≠ x
  ns : h'.Ns1 dx (fun y => if y = "line" then some v else none)
section
variable {prog : Program} {w : World} {A : Around} {E : Value → Shared → Prop} {R : Result → Shared → Prop} {s : Shared} {K : Frag} {mg mb : Str → Option Value} {C fI : Addr}
theorem low_init (T : Txt prog K mg C fI) {x t0 : Addr} {v : Value} (X : K.In s.heap) (hg : s.heap.Ns mainGlobals mg) (hb : s.heap.Ns builtinsNs mb) (hbb : ∀ x : Str, x ≠ "__name__" → mb x = bootBuiltins x) (hlim : s.heap.NoLimit) (hx : s.heap.get? x = some (excO C t0)) (hnx : K.lookup x = none)
    (nx1 : x ≠ mainGlobals) (nx2 : x ≠ builtinsNs) (hroom : A.depth < recursionLimit)
    (hq : ∀ h' tk dx t1, InitEnd s.heap h' x C dx t1 v → R (.ok (.ret .none)) { s with heap := h', toks := tk }) :
    codeAny (model prog w) A (.call (.ref fI) ⟨[.ref x, v], []⟩) R s := by
  obtain ⟨oc, od, doc, pm, an, cda, cc, ct, osl, qual, txt, p1, p2, a1, a2, a3, a4, a5, a6, b1, b2, b3, b4, ccl, cl, cdd, cld, vs, ccs, csl, file, tf, ho, hcd, hcda, hvs, hfile, hcc, hform⟩ := T.fn
  obtain ⟨nm, q, N, bs, bm, sn, sub, ab, col, dd, k0, k1, k2, k3, k5, hC, hbm⟩ := T.cls
  have hcl : clsIn K C = some { name := nm, bases := bs, mro := .ref C :: bm, ns := N, qualname := q, hasDict := true, slotNames := sn, subclasses := sub, abstract := ab, collection := col, hasDel := false } := by unfold clsIn; rw [hC] <;> rfl
  refine ks_codeAny_call_defAt (fd := ksFn "__init__" qual (tA p1 p2) (tB txt a1 a2 a3 a4 a5 a6 b1 b2 b3 b4) tS .none .none doc pm an (.ref cda) ct cc) (body := tB txt a1 a2 a3 a4 a5 a6 b1 b2 b3 b4) (binds := [("self", .ref x), ("line", v)]) hroom (X _ _ ho) rfl hlim (codeRec_of X hcd) rfl (BindsTo.of_eq (by first | rfl | with_unfolding_all rfl)) (show ∀ y ∈ tS.names, y.2 ≠ .cell by decide) (fun y hy => by
    rcases List.mem_cons.mp hy with rfl | hy
    · rfl
    · rw [List.mem_singleton.mp hy]
      rfl) (fun h₁ hns kp => ?_)
  have hL : s.heap.objs.size < h₁.objs.size := hns.lt
  have hxL : x ≠ s.heap.objs.size := Nat.ne_of_lt (Heap.lt_size hx)
  have X1 : K.In h₁ := X.keeps kp
  have hx1 := kp _ _ hx
  have I1 : InstAt h₁ x (excO C t0) C none := ⟨hx1, rfl, rfl, trivial⟩
  show _root_.PySem.wpAt (model prog w) _ (.func _ (ksEnv qual tS s.heap.objs.size fI (.ref cda) cc)) (execs (tB txt a1 a2 a3 a4 a5 a6 b1 b2 b3 b4) (ksEnv qual tS s.heap.objs.size fI (.ref cda) cc)) _ _ _
  have ms : (fun y => List.lookup y [(PySem.Str.ofString "self", Value.ref x), (PySem.Str.ofString "line", v)].reverse) "self" = some (.ref x) := by rfl
  have mf : (fun y => List.lookup y [(PySem.Str.ofString "self", Value.ref x), (PySem.Str.ofString "line", v)].reverse) "line" = some v := by rfl
  obtain ⟨oD, hD1, hD2⟩ : ∃ oD, h₁.get? C = some oD ∧ oD.data = .cls { name := nm, bases := bs, mro := .ref C :: bm, ns := N, qualname := q, hasDict := true, slotNames := sn, subclasses := sub, abstract := ab, collection := col, hasDel := false } := ⟨_, X1 _ _ hC, rfl⟩
  -- super().__init__(txt)
  obtain ⟨pl, he⟩ := hform (ksEnv qual tS s.heap.objs.size fI (.ref cda) cc)
  refine ks_wpAt_execs_cons (ks_wpAt_Expr_any (ks_wpAt_MethodCall (pl := pl) ?_ he))
  refine ks_wpAt_super_base (env := ksEnv qual tS s.heap.objs.size fI (.ref cda) cc) rfl rfl rfl rfl (X1 _ _ ho) rfl (ar := { arg := "self", annotation := none, pos := p1 }) rfl rfl (X1 _ _ hcda) rfl hvs hfile T.htop ?_
  refine ks_loadName_global rfl rfl (loadGlobal_builtin (env := ksEnv qual tS s.heap.objs.size fI (.ref cda) cc) (hg.keeps kp) T.sup (hb.keeps kp) ((hbb _ (by decide)).trans (by decide +kernel)) ⟨rfl, ?_⟩)
  refine wpAny_loadName_free rfl rfl rfl ⟨_, X1 _ _ hcc, rfl⟩ ?_
  refine wpAny_loadName_local rfl rfl hns ms ?_
  refine ks_wpAny_isType_cls hD1 hD2 ⟨rfl, ?_⟩
  refine ks_wpAny_call_super hD1 hD2 hx1 rfl (fun c e => by cases e) (looks_mroIn X1 T.mro) (fun h2 e2 k2 => ?_)
  have X2 : K.In h2 := X1.keeps k2
  have I2 : InstAt h2 x (excO C t0) C none := ⟨k2 _ _ hx1, rfl, rfl, trivial⟩
  have ab := T.above
  unfold ks_superIn at ab
  rw [hcl, Option.bind_some] at ab
  refine kxs_getMethod kxs_ValueError e2 (looks_opaque X2 T.opq) (l₀ := .ref C :: bm) ((looks_clsIn X2 hcl).andThen .now) rfl X2 ab (I2.type.andThen (looks_subIn X2 T.exV)) (ks_ne X2 I2 hcl) (by decide) ?_
  show wpAny _ _ (callWith a5 (.ref h2.objs.size) [] (backTo a5 (starEach [.Constant (.str txt) 0 a4] (ksEnv qual tS s.heap.objs.size fI (.ref cda) cc))) []) _ _ _
  have hu : (h2.push (kxs_mw "ValueError.__init__" x)).get? h2.objs.size = some (kxs_mw "ValueError.__init__" x) := Heap.get?_push_size _ rfl
  have k3 : ∀ b o, h₁.get? b = some o → (h2.push (kxs_mw "ValueError.__init__" x)).get? b = some o := fun b o e => Heap.get?_push_of_some _ (k2 b o e)
  refine kxs_callWith (i := "ValueError.__init__") (x := x) rfl ?_
  show wpAny _ _ (evalArgs _ true ((false, eval (.Constant (.str txt) 0 a4) (ksEnv qual tS s.heap.objs.size fI (.ref cda) cc)) :: []) []) _ _ _
  refine evalArgs_plain (spliced_cons (Constant_str (spliced_nil ⟨hu, ?_⟩)))
  show wpAny _ _ (call (.ref h2.objs.size) [.str txt _]) _ _ _
  -- the ground: the heap ahead of the call, but for the exception itself
  have g1 : ∀ b o, b ≠ x → s.heap.get? b = some o → (hideAll s.heap [x]).get? b = some o := fun b o nb e => hideAll_get _ e (by simpa using nb)
  have gx : (hideAll s.heap [x]).get? x = none := hideAll_none _ (by simp)
  have XG : K.In (hideAll s.heap [x]) := fun a o e => g1 a o (fun z => by rw [z, hnx] at e; cases e) (X a o e)
  have F3 : Fr (hideAll s.heap [x]) s.heap.objs.size (h2.push (kxs_mw "ValueError.__init__" x)) (fun y => List.lookup y [(PySem.Str.ofString "self", Value.ref x), (PySem.Str.ofString "line", v)].reverse) :=
    ⟨hns.keeps k3, fun b o e => k3 b o (kp b o (of_hideAll _ e)), Nat.le_of_eq (hideAll_size _ _)⟩
  have nu : h2.objs.size ≠ x := Nat.ne_of_gt (Heap.lt_size (k2 _ _ hx1))
  have big : s.heap.objs.size < h2.objs.size := by
    obtain ⟨o, _, _, e, _⟩ := hns
    exact Heap.lt_size (k2 _ _ e)
  have N3 : News (hideAll s.heap [x]) s.heap.objs.size (h2.push (kxs_mw "ValueError.__init__" x)) [(h2.objs.size, kxs_mw "ValueError.__init__" x), (x, excObj C t0 none .none)] := fun p hp => by
    rcases List.mem_cons.mp hp with rfl | hp
    · refine ⟨hu, Nat.ne_of_gt big, ?_⟩
      exact Heap.get?_none_of_le (by rw [hideAll_size]; exact Nat.le_of_lt big)
    · rw [List.mem_singleton.mp hp]
      exact ⟨k3 _ _ hx1, hxL, gx⟩
  refine kxs_call (x := x) (t := t0) (dv := none) (c2 := .none) (nw := fun o' => [(h2.objs.size, kxs_mw "ValueError.__init__" x), (x, o')]) F3 XG N3 F.excBase_ValueError T.inI (by simp) (.tail nu (.head fun _ z => nomatch z)) (by show 1 ≤ sizeLine; decide) fun t1 h4 F4 N4 _ => ?_
  have hx4 : h4.get? x = some (excObj C t1 none .none) := (N4 (x, excObj C t1 none .none) (by simp)).1
  have X4 : K.In h4 := fun a o e => F4.keep a o (XG a o e)
  have z4 : s.heap.objs.size < h4.objs.size := F4.ns.lt
  show _root_.PySem.wpAt _ _ _ (execs (.Assign [.Attribute (.Name "self" b1) "line" b2] (.Name "line" b3) b4 :: []) (ksEnv qual tS s.heap.objs.size fI (.ref cda) cc)) _ _ _
  refine wpAt_of_wpAny (wpAny_execs_cons (plainObj_wpAny_Assign_Attribute ?_))
  refine wpAny_Name (wpAny_loadName_local rfl rfl F4.ns mf ?_) (by decide)
  refine wpAny_Name (wpAny_loadName_local rfl rfl F4.ns ms ?_) (by decide)
  refine set_plain X4 (ox := excObj C t1 none .none) (od := none) ⟨hx4, rfl, rfl, trivial⟩ T.sa ?_
  refine exc_osa X4 hx4 hcl (show refsVE (.ref C :: bm) = true from hbm) rfl T.noN (fun h5 tk5 dx kk dn dne hx5 hn5 => ?_)
  exact wpAny_execs_nil (hq h5 tk5 dx t1 ⟨fun b o nb e => kk b o nb (F4.keep b o (g1 b o nb e)), hx5, Nat.le_of_lt (Nat.lt_of_lt_of_le z4 dn), dne, hn5⟩)
/-- a made one -/
structure OwnMade (h h' : Heap) (e C d : Addr) (v : Value) : Prop where
  keep : ∀ b o, h.get? b = some o → h'.get? b = some o
  new : h.objs.size ≤ e
  obj : ∃ oe vs, h'.get? e = some oe ∧ oe.cls = .ref C ∧ oe.dict = some d ∧ oe.data = .fields vs ∧ vs[1]? = some .none
  dbig : h.objs.size ≤ d
  dne : d ≠ e
  ns : h'.Ns1 d (fun y => if y = "line" then some v else none)
theorem low_made (T : Txt prog K mg C fI) {v : Value} (X : K.In s.heap) (hg : s.heap.Ns mainGlobals mg) (hb : s.heap.Ns builtinsNs mb) (hbb : ∀ x : Str, x ≠ "__name__" → mb x = bootBuiltins x) (hlim : s.heap.NoLimit) (hroom : A.depth + 1 < recursionLimit)
    (hq : ∀ h' tk e d, OwnMade s.heap h' e C d v → R (.ok (.ret (.ref e))) { s with heap := h', toks := tk }) :
    codeAny (model prog w) A (.call (.ref C) ⟨[v], []⟩) R s := by
  obtain ⟨nm, q, N, bs, bm, sn, sub, ab, col, dd, k0, k1, k2, k3, k5, hC, hbm⟩ := T.cls
  obtain ⟨hp, g, dr, tk, os⟩ := s
  have k : ∀ b o, hp.get? b = some o → ((hp.push (kdv_tup [v])).push (excO C hp.objs.size)).get? b = some o := fun b o e => Heap.get?_push_of_some _ (Heap.get?_push_of_some _ e)
  have hget : ((hp.push (kdv_tup [v])).push (excO C hp.objs.size)).get? (hp.objs.size + 1) = some (excO C hp.objs.size) := by heap_get
  have hnx : K.lookup (hp.objs.size + 1) = none := by
    cases e : K.lookup (hp.objs.size + 1) with
    | none => rfl
    | some o =>
      have z : hp.get? (hp.objs.size + 1) = some o := X _ _ e
      exact absurd (Nat.lt_of_succ_lt (Heap.lt_size z)) (Nat.lt_irrefl _)
  have zg : mainGlobals < hp.objs.size := Heap.Ns.lt hg
  have zb : builtinsNs < hp.objs.size := Heap.Ns.lt hb
  have n1 : hp.objs.size + 1 ≠ mainGlobals := fun e => absurd (Nat.lt_succ_of_lt zg) (by rw [← e]; exact Nat.lt_irrefl _)
  have n2 : hp.objs.size + 1 ≠ builtinsNs := fun e => absurd (Nat.lt_succ_of_lt zb) (by rw [← e]; exact Nat.lt_irrefl _)
  refine call_own F.excBase_ValueError (fun X => refsVE_contains X bm hbm) (X _ _ hC) (looks_findIn X T.iC) (fun self => bind_fn X self T.tC) (by show 1 ≤ sizeLine; rw [sizeLine_eq]; omega) ?_
  refine low_init (mb := mb) (s := ⟨(hp.push (kdv_tup [v])).push (excO C hp.objs.size), g, dr, tk, os⟩) T (X.keeps k) (hg.keeps k) (hb.keeps k) hbb (hlim.keeps k) hget hnx n1 n2 ?_ fun h' tk' dx t1 ⟨k', hx, dn, dne, hns⟩ => ?_
  · show A.depth + 1 < recursionLimit
    exact hroom
  · have old : ∀ b o, hp.get? b = some o → h'.get? b = some o := fun b o e => k' b o (Nat.ne_of_lt (Nat.lt_succ_of_lt (Heap.lt_size e))) (k b o e)
    have z : hp.objs.size + 1 + 1 ≤ dx := by
      first
        | (simpa only [Heap.size_push] using dn)
        | exact dn
        | (have q := dn; rw [Heap.size_push, Heap.size_push] at q; exact q)
    exact ⟨rfl, hq h' tk' (hp.objs.size + 1) dx ⟨old, Nat.le_succ _, ⟨_, _, hx, rfl, rfl, rfl, rfl⟩, Nat.le_trans (Nat.le_trans (Nat.le_succ _) (Nat.le_succ _)) z, dne, hns⟩⟩
end
end LowLine
namespace LowLine
open PySem PySem.Spec PyProof.Rows L2
section
variable {X : Cx} {C fI : Addr} {W : WX}
theorem pmk {a : Expr} {ta : TA} {nm : Str} {p pos : Pos} {k : Nat} (T : Txt X.prog X.K X.mg C fI) (gC : X.mg nm = some (.ref C)) (hr : Room k X.A) (ha : PA X [a] ta) (hg : Gl X nm := by rfl) (hdb : (nm == ("__debug__" : Str)) = false := by decide)
    (he : starEach (a :: []) X.env = (false, eval a X.env) :: starEach [] X.env := by rfl) (hpl : (backTo pos (starEach [] X.env)).any (·.1) = false := by rfl) :
    PMk X (.Call (.Name nm p) [a] [] pos) (tMkF C "line" ta) := by
  intro pins s σ H Q I h
  refine wpAny_Call_Name_kw (ld_glob I hg gC ?_ hdb)
  refine PySem.W.callWith_K (h₀ := X.base) I.ok.mod.kin T.kC (thn (ha.run pos pins s σ H _ I h) fun us s1 hh => ?_) he hpl
  obtain ⟨vs, H1, I1, r1, v, ev, q1⟩ := hh
  subst ev
  refine ⟨I1.kIn, ?_⟩
  cases r1 with
  | cons rv rn =>
    rename_i v' us'
    cases rn
    show wpAny _ _ (call (.ref C) [v']) _ _ _
    have hlim := I1.nolimit
    have hgl := I1.mod.glob.keeps I1.bk
    obtain ⟨mb, hb0, hbb⟩ := I1.mod.blt
    have hbl := hb0.keeps I1.bk
    obtain ⟨hp, g, dr, tk, os⟩ := s1
    refine wpAny_call (low_made (mb := mb) T I1.kIn hgl hbl hbb hlim (by have := hr.dp; omega) fun h' tk' e d M => ?_)
    show MkP X pins σ Q (.ref e) ⟨h', g, dr, tk', os⟩
    obtain ⟨oe, fv, hoe, hc, hd, hdat, h1⟩ := M.obj
    have hns := M.ns
    obtain ⟨G', g1, g2⟩ := restrict h' fun b => decide (b ≠ e)
    have gk : ∀ b, b ≠ e → G'.get? b = h'.get? b := fun b hb => g1 b (decide_eq_true hb)
    have ge : G'.get? e = none := g2 e (by simp)
    have old : ∀ b o, hp.get? b = some o → G'.get? b = some o := fun b o q => (gk b (Nat.ne_of_lt (Nat.lt_of_lt_of_le (Heap.lt_size q) M.new))).trans (M.keep b o q)
    have ob : ObjOk X.prog X.w (upd H1 d (.xd [(("line" : Str), v)])) G' d (.xd [(("line" : Str), v)]) :=
      ⟨_, hns.at (fun o q => (gk d M.dne).trans q), fun f => relO_one rv f⟩
    have J : Inv X pins σ (upd H1 d (.xd [(("line" : Str), v)])) ⟨G', g, dr, tk', os⟩ := I1.laid (t' := tk') old M.dbig ob
    refine ⟨e, oe, fv, ⟨G', g, dr, tk', os⟩, _, .ref C, some d, rfl, J, fun b o q => ?_, ge, hoe, ⟨hc, hd⟩, hdat, h1, ?_, rfl, I1.bare, raises_own T.exC T.tyC, q1 d (I1.hok.fresh M.dbig)⟩
    · by_cases hb : b = e
      · have q' : G'.get? b = some o := q
        rw [hb, ge] at q'; cases q'
      · exact (gk b hb).symm.trans q
    · rw [upd_ne (Ne.symm M.dne)]
      exact I1.hok.fresh M.new
theorem ps_raise {a : Expr} {ta : TA} {nm : Str} {p pos pos2 : Pos} {k : Nat} (hc : X.calm = true) (T : Txt X.prog X.K X.mg C fI) (gC : X.mg nm = some (.ref C)) (hr : Room k X.A) (tk : Takes X W) (ha : PA X [a] ta) (hg : Gl X nm := by rfl) (hdb : (nm == ("__debug__" : Str)) = false := by decide)
    (he : starEach (a :: []) X.env = (false, eval a X.env) :: starEach [] X.env := by rfl) (hpl : (backTo pos (starEach [] X.env)).any (·.1) = false := by rfl) :
    PS X (.Raise (some (.Call (.Name nm p) [a] [] pos)) none pos2) (tRaiseF C "line" W ta) := L2.ps_raise hc tk (pmk T gC hr ha hg hdb he hpl)
end
end LowLine
end Ld

set_option Elab.async false
set_option linter.all false
set_option maxRecDepth 100000
set_option maxHeartbeats 2000000
/-! From what the top has written to what the texts ask. -/
namespace Ld
open PySem PySem.Spec PyProof.Rows L2
variable {K : PySem.W.Frag} {mg : Str → Option Value} {h : Heap} {f C : Addr} {x m qual : Str} {st : Stmt} {ps : List Str} {od an : Option Addr} {sl : Array (Option Value)} {oc kV dc pm cd ct : Value}
theorem fn_raw (l : K.lookup f = some ⟨oc, od, .func (PySem.W.fnOf x qual (defArgs st) (defBody st) (defScope st) .none kV dc pm an cd ct), sl⟩) (c : PySem.W.codeIn K cd qual = true) (k : PySem.W.keepIn K (.ref f) = true) :
    Fun K x qual st f (PySem.W.fnOf x qual (defArgs st) (defBody st) (defScope st) .none kV dc pm an cd ct) := fun_mk (st := st) l c k
def ArgsAt (x qual : Str) (st : Stmt) (ps : List Str) : Prop := ∀ (kV doc pm : Value) (an : Option Addr) (cdv ct : Value) (us : List Value), us.length = ps.length → bindArgs (PySem.W.fnOf x qual (defArgs st) (defBody st) (defScope st) .none kV doc pm an cdv ct) { pos := us } = pure (ps.zip us)
theorem fnAt_mk (X : K.In h) (G : h.Ns mainGlobals mg) (a : PySem.W.nsIn K mainGlobals x = some (some (.ref f)))
    (l : K.lookup f = some ⟨oc, od, .func (PySem.W.fnOf x x (defArgs st) (defBody st) (defScope st) .none kV dc pm an cd ct), sl⟩) (c : PySem.W.codeIn K cd x = true) (k : PySem.W.keepIn K (.ref f) = true)
    (b : ArgsAt x x st ps) : FnAt K mg x st ps := ⟨f, _, PySem.W.mg_of X G a, fn_raw l c k, (fn_raw l c k).binds b⟩
theorem methAt_mk (a : PySem.W.findIn K (.ref C) m = some (some (.ref f))) (i : PySem.W.isFn K (.ref f) = true)
    (l : K.lookup f = some ⟨oc, od, .func (PySem.W.fnOf m qual (defArgs st) (defBody st) (defScope st) .none kV dc pm an cd ct), sl⟩) (c : PySem.W.codeIn K cd qual = true) (k : PySem.W.keepIn K (.ref f) = true)
    (b : ArgsAt m qual st ps) : MethAt K C m qual st ps := ⟨f, _, ⟨a, i, k⟩, fn_raw l c k, (fn_raw l c k).binds b⟩
theorem initAt_mk (X : K.In h) (G : h.Ns mainGlobals mg) (cl : Cls K C) (g : PySem.W.nsIn K mainGlobals x = some (some (.ref C))) (mk : PySem.W.makesIn K C = true) (kc : PySem.W.keepIn K (.ref C) = true) (a : PySem.W.findIn K (.ref C) "__init__" = some (some (.ref f))) (i : PySem.W.isFn K (.ref f) = true)
    (l : K.lookup f = some ⟨oc, od, .func (PySem.W.fnOf "__init__" qual (defArgs st) (defBody st) (defScope st) .none kV dc pm an cd ct), sl⟩) (c : PySem.W.codeIn K cd qual = true) (k : PySem.W.keepIn K (.ref f) = true)
    (b : ArgsAt "__init__" qual st ps) : InitAt K mg C x qual st ps := ⟨cl, PySem.W.mg_of X G g, f, _, ⟨mk, a, i, kc⟩, fn_raw l c k, (fn_raw l c k).binds b⟩
theorem const_mk {n : Int} {t : Tok} (X : K.In h) (G : h.Ns mainGlobals mg) (a : PySem.W.nsIn K mainGlobals x = some (some (.int n t))) : ∃ u, mg x = some u ∧ RelV (.int n) u := ⟨_, PySem.W.mg_of X G a, ⟨t, rfl⟩⟩
theorem constS_mk {n : Str} {t : Tok} (X : K.In h) (G : h.Ns mainGlobals mg) (a : PySem.W.nsIn K mainGlobals x = some (some (.str n t))) : ∃ u, mg x = some u ∧ RelV (.str n) u := ⟨_, PySem.W.mg_of X G a, ⟨t, rfl⟩⟩
end Ld

set_option Elab.async false
set_option linter.all false
set_option maxRecDepth 100000
set_option maxHeartbeats 2000000
/-! A pot that numbers are drawn from; values that hang on nothing that was there before. -/
namespace Ld
open PySem PySem.Spec PyProof.Rows L2
/-- three numbers; the third counts what was drawn -/
def PotAt (H : Hp) (p : Addr) (n : Nat) : Prop := ∃ a b c : Int, H p = some (.lst [.int a, .int b, .int c]) ∧ 0 ≤ a ∧ 0 ≤ b ∧ b < 2 ^ 200 ∧ 0 ≤ c ∧ c ≤ (n : Int)
theorem PotAt.mono {H : Hp} {p : Addr} {n m : Nat} (h : PotAt H p n) (l : n ≤ m) : PotAt H p m := by
  obtain ⟨a, b, c, e, h1, h2, h3, h4, h5⟩ := h
  exact ⟨a, b, c, e, h1, h2, h3, h4, by omega⟩
theorem PotAt.same {H H' : Hp} {p : Addr} {n : Nat} (h : PotAt H p n) (k : Same H H') : PotAt H' p n := by
  obtain ⟨a, b, c, e, h1, h2, h3, h4, h5⟩ := h
  exact ⟨a, b, c, k _ _ e, h1, h2, h3, h4, h5⟩
theorem PotAt.ne {H : Hp} {p : Addr} {n : Nat} (h : PotAt H p n) : H p ≠ none := by
  obtain ⟨a, b, c, e, _⟩ := h
  rw [e]
  exact fun z => nomatch z
theorem bits_le {x : Int} {k : Nat} (h0 : 0 < k) (h : x.natAbs < 2 ^ k) : Builtin.Int.intBits x ≤ k := by
  have := PySem.Flt.log2_lt_of h0 h
  unfold Builtin.Int.intBits
  split <;> omega
theorem cpow3 {x : Int} (h0 : 0 ≤ x) (h : x < 2 ^ 300) : CPowW x 3 := by
  have b : Builtin.Int.intBits x ≤ 300 := bits_le (by omega) (by omega)
  refine ⟨by omega, ?_⟩
  have : (Builtin.Int.intBits x : Int) ≤ 300 := by omega
  omega
theorem cmul {i j : Int} (h0 : 0 ≤ i) (h : i < 2 ^ 300) (g0 : 0 ≤ j) (g : j < 2 ^ 300) : CMulW i j := wide_mul (a := 300) (b := 300) (by omega) (by omega) (by omega) (by omega) (by omega)
theorem cdiv {i j : Int} (h0 : 0 < j) (h : j < 2 ^ 300) : CDivW i j := wide_div h0 (b := 300) (by omega) (by omega) (by omega)
theorem cpow3m {X M k x : Int} (h0 : 0 < M) (h1 : M ≤ 2 ^ 200) (k0 : 0 ≤ k) (k1 : k ≤ 2 ^ 40) (x0 : 0 ≤ x) (x1 : x ≤ 2 ^ 61) : CPowW (X % M + k * x) 3 := by
  have a := Int.emod_nonneg X (show M ≠ 0 by omega)
  have b := Int.emod_lt_of_pos X h0
  have c : k * x ≤ 2 ^ 40 * 2 ^ 61 := Int.mul_le_mul k1 x1 x0 (by omega)
  have d : 0 ≤ k * x := Int.mul_nonneg k0 x0
  exact cpow3 (by omega) (by omega)
theorem cpow3a {y k x : Int} (y0 : 0 ≤ y) (y1 : y < 2 ^ 200) (k0 : 0 ≤ k) (k1 : k ≤ 2 ^ 40) (x0 : 0 ≤ x) (x1 : x ≤ 2 ^ 61) : CPowW (y + k * x) 3 := by
  have c : k * x ≤ 2 ^ 40 * 2 ^ 61 := Int.mul_le_mul k1 x1 x0 (by omega)
  have d : 0 ≤ k * x := Int.mul_nonneg k0 x0
  exact cpow3 (by omega) (by omega)
/-- a value that hangs on nothing of H but what never changes -/
def Fd (K : PySem.W.Frag) (H H1 : Hp) (v : V) (d : PyData) : Prop := ∀ (q : Addr → Prop) (H' : Hp), (∀ b, q b → H b ≠ none) → Keep q H1 H' → Dp K H' v d
theorem Fd.dp {K : PySem.W.Frag} {H H1 : Hp} {v : V} {d : PyData} (h : Fd K H H1 v d) : Dp K H1 v d := h (fun _ => False) H1 (fun _ z => z.elim) (Keep.refl H1)
/-- what stood stands, but for the pot -/
structure Gr (p : Addr) (H H' : Hp) : Prop where
  keep : Keep (fun b => b = p) H H'
  ne : H p ≠ none → H' p ≠ none
theorem Gr.refl (p : Addr) (H : Hp) : Gr p H H := ⟨Keep.refl H, id⟩
theorem Gr.trans {p : Addr} {H H1 H2 : Hp} (a : Gr p H H1) (b : Gr p H1 H2) : Gr p H H2 := ⟨a.keep.trans b.keep, fun z => b.ne (a.ne z)⟩
theorem Gr.of {p : Addr} {H H' : Hp} (s : Same H H') : Gr p H H' := ⟨Keep.of s, fun z => by
  cases e : H p with
  | none => exact absurd e z
  | some o => rw [s _ _ e]; exact fun z => nomatch z⟩
theorem Gr.dom {p : Addr} {H H' : Hp} (g : Gr p H H') : ∀ b, H b ≠ none → H' b ≠ none := fun b z => by
  by_cases e : b = p
  · rw [e] at z ⊢; exact g.ne z
  · cases q : H b with
    | none => exact absurd q z
    | some o => rw [g.keep b o e q]; exact fun z => nomatch z
theorem Fd.weak {K : PySem.W.Frag} {H0 H H1 : Hp} {v : V} {d : PyData} (h : Fd K H H1 v d) (g : ∀ b, H0 b ≠ none → H b ≠ none) : Fd K H0 H1 v d := fun q H' z k => h q H' (fun b y => g b (z b y)) k
/-- later on it is the same value -/
theorem Fd.later {K : PySem.W.Frag} {H H1 H2 : Hp} {v : V} {d : PyData} {p : Addr} (h : Fd K H H1 v d) (hp : H p ≠ none) (g : Gr p H1 H2) : Fd K H H2 v d := fun q H' z k =>
  h (fun b => q b ∨ b = p) H' (fun b y => y.elim (z b) fun e => e ▸ hp) fun b o nb e => k b o (fun y => nb (.inl y)) (g.keep b o (fun y => nb (.inr y)) e)
theorem Fd.same {K : PySem.W.Frag} {H H1 H2 : Hp} {v : V} {d : PyData} (h : Fd K H H1 v d) (s : Same H1 H2) : Fd K H H2 v d := fun q H' z k => h q H' z fun b o nb e => k b o nb (s b o e)
theorem Fd.int {K : PySem.W.Frag} {H H1 : Hp} (i : Int) : Fd K H H1 (.int i) (.int i) := fun _ _ _ _ => .int i
theorem Fd.bl {K : PySem.W.Frag} {H H1 : Hp} (i : Bool) : Fd K H H1 (.bl i) (.bool i) := fun _ _ _ _ => .bl i
theorem Fd.str {K : PySem.W.Frag} {H H1 : Hp} (i : Str) : Fd K H H1 (.str i) (.str i) := fun _ _ _ _ => .str i
theorem Fd.non {K : PySem.W.Frag} {H H1 : Hp} : Fd K H H1 .non .none := fun _ _ _ _ => .non
inductive FdAll (K : PySem.W.Frag) (H H1 : Hp) : List V → List PyData → Prop
  | nil : FdAll K H H1 [] []
  | cons {v : V} {d : PyData} {vs : List V} {ds : List PyData} (h : Fd K H H1 v d) (t : FdAll K H H1 vs ds) : FdAll K H H1 (v :: vs) (d :: ds)
theorem FdAll.get {K : PySem.W.Frag} {H H1 : Hp} {vs : List V} {ds : List PyData} (h : FdAll K H H1 vs ds) (q : Addr → Prop) (H' : Hp) (z : ∀ b, q b → H b ≠ none) (k : Keep q H1 H') : DpAll K H' vs ds := by
  induction h with
  | nil => exact .nil
  | cons h _ ih => exact .cons (h q H' z k) ih
/-- a new tuple of such values -/
theorem Fd.tup {K : PySem.W.Frag} {H H1 : Hp} {vs : List V} {ds : List PyData} {t : Addr} (h : FdAll K H H1 vs ds) (e : H1 t = some (.tup vs)) (nh : H t = none) : Fd K H H1 (.ref t) (.tuple ds) := fun q H' z k =>
  .tup (.inl (.inl (k t _ (fun y => z t y nh) e))) (h.get q H' z k)
theorem Fd.lst {K : PySem.W.Frag} {H H1 : Hp} {vs : List V} {ds : List PyData} {t : Addr} (h : FdAll K H H1 vs ds) (e : H1 t = some (.lst vs)) (nh : H t = none) : Fd K H H1 (.ref t) (.list ds) := fun q H' z k =>
  .lst (.inl (.inl (k t _ (fun y => z t y nh) e))) (h.get q H' z k)
theorem Gr.none {p : Addr} {H H' : Hp} {t : Addr} (g : Gr p H H') (n : H' t = Option.none) : H t = Option.none := by
  cases e : H t with
  | none => rfl
  | some o => exact absurd n (g.dom t (by rw [e]; exact fun z => nomatch z))
theorem FdAll.later {K : PySem.W.Frag} {H H1 H2 : Hp} {vs : List V} {ds : List PyData} {p : Addr} (h : FdAll K H H1 vs ds) (hp : H p ≠ none) (g : Gr p H1 H2) : FdAll K H H2 vs ds := by
  induction h with
  | nil => exact .nil
  | cons h _ ih => exact .cons (h.later hp g) ih
theorem FdAll.same {K : PySem.W.Frag} {H H1 H2 : Hp} {vs : List V} {ds : List PyData} (h : FdAll K H H1 vs ds) (s : Same H1 H2) : FdAll K H H2 vs ds := by
  induction h with
  | nil => exact .nil
  | cons h _ ih => exact .cons (h.same s) ih
theorem FdAll.snoc {K : PySem.W.Frag} {H H1 : Hp} {vs : List V} {ds : List PyData} {v : V} {d : PyData} (h : FdAll K H H1 vs ds) (hv : Fd K H H1 v d) : FdAll K H H1 (vs ++ [v]) (ds ++ [d]) := by
  induction h with
  | nil => exact .cons hv .nil
  | cons h _ ih => exact .cons h ih
/-- drawing: 0 ≤ r < many -/
def spDip : Sp := fun vs H Q _ => ∃ (p : Addr) (many : Int) (n : Nat), vs = [.ref p, .int many] ∧ PotAt H p n ∧ n < 2 ^ 60 ∧ 0 < many ∧ many < 2 ^ 200 ∧ ∀ r H', 0 ≤ r → r < many → Gr p H H' → PotAt H' p (n + 1) → Q (.int r) H'
theorem cpowc {i j : Int} (h : 0 ≤ j) (g : i.natAbs < 2 ^ 64) (l : j ≤ 100000) : CPowW i j := by
  have b : Builtin.Int.intBits i ≤ 64 := bits_le (by omega) g
  refine ⟨h, ?_⟩
  have b' : (Builtin.Int.intBits i : Int) ≤ 64 := by omega
  have : (Builtin.Int.intBits i : Int) * j ≤ 64 * 100000 := Int.mul_le_mul b' l h (by omega)
  omega
theorem modk {x M c : Int} {k : Nat} (h0 : 0 < M) (h1 : M ≤ 2 ^ 150) (c0 : 0 ≤ c) (c1 : c ≤ 2 ^ 40) (hk : k ≤ 1000) : 0 ≤ x % M + c * k ∧ x % M + c * k < 2 ^ 200 := by
  have a := Int.emod_nonneg x (show M ≠ 0 by omega)
  have b := Int.emod_lt_of_pos x h0
  have e : c * k ≤ 2 ^ 40 * 1000 := Int.mul_le_mul c1 (by omega) (by omega) (by omega)
  have d : 0 ≤ c * (k : Int) := Int.mul_nonneg c0 (by omega)
  omega
theorem Fd.later2 {K : PySem.W.Frag} {H H1 H2 : Hp} {v : V} {d : PyData} {p D : Addr} (h : Fd K H H1 v d) (hp : H p ≠ none) (hD : H D ≠ none) (g : Keep (fun b => b = p ∨ b = D) H1 H2) : Fd K H H2 v d := fun q H' z k =>
  h (fun b => q b ∨ (b = p ∨ b = D)) H' (fun b y => y.elim (z b) fun e => e.elim (fun e => e ▸ hp) fun e => e ▸ hD) fun b o nb e => k b o (fun y => nb (.inl y)) (g b o (fun y => nb (.inr y)) e)
theorem FdAll.later2 {K : PySem.W.Frag} {H H1 H2 : Hp} {vs : List V} {ds : List PyData} {p D : Addr} (h : FdAll K H H1 vs ds) (hp : H p ≠ none) (hD : H D ≠ none) (g : Keep (fun b => b = p ∨ b = D) H1 H2) : FdAll K H H2 vs ds := by
  induction h with
  | nil => exact .nil
  | cons h _ ih => exact .cons (h.later2 hp hD g) ih
theorem FdAll.weak {K : PySem.W.Frag} {H0 H H1 : Hp} {vs : List V} {ds : List PyData} (h : FdAll K H H1 vs ds) (g : ∀ b, H0 b ≠ none → H b ≠ none) : FdAll K H0 H1 vs ds := by
  induction h with
  | nil => exact .nil
  | cons h _ ih => exact .cons (h.weak g) ih
theorem FdAll.len {K : PySem.W.Frag} {H H1 : Hp} {vs : List V} {ds : List PyData} (h : FdAll K H H1 vs ds) : vs.length = ds.length := by
  induction h with
  | nil => rfl
  | cons _ _ ih => simp [ih]
/-- a comprehension over range, its count come -/
def LcRng (g : TG) (tt : TT) (te : TE) (vs : List Nat) (σ : L2.St) (Q : VK) (ws : List V) (H : Hp) : Prop := tLc (iRng1 fun _ H Q => Q ws H) g tt te vs σ H Q
theorem tLc_rng {g : TG} {tt : TT} {te : TE} {vs : List Nat} {σ : L2.St} {Q : VK} {H : Hp} {ta : TA} : tLc (iRng1 ta) g tt te vs σ H Q = ta σ H (LcRng g tt te vs σ Q) := rfl
/-- a comprehension over range whose items are drawn: cost draws each -/
theorem lcDraw {K : PySem.W.Frag} {H : Hp} {Q : VK} {σ : L2.St} {g : TG} {te : TE} {vs : List Nat} {p : Addr} {n n0 : Nat} (cost : Nat) (good : PyData → Prop) (few : n < sizeLine) (hp : PotAt H p n0)
    (step : ∀ i H' (N : VK), i < n → Gr p H H' → PotAt H' p (n0 + i * cost) → (∀ y d H4, Gr p H' H4 → PotAt H4 p (n0 + i * cost + cost) → Fd K H' H4 y d → good d → N y H4) → g (.int (i : Nat)) (wipe σ vs) H' fun σ2 H2 => wipe σ2 vs = wipe σ vs ∧ te σ2 H2 N)
    (hd : ∀ D H' ys ds, H D = none → Gr p H H' → H' D = some (.lst ys) → PotAt H' p (n0 + n * cost) → ds.length = n → FdAll K H H' ys ds → (∀ d ∈ ds, good d) → Q (.ref D) H') : LcRng g tYes te vs σ Q [.int (n : Int)] H := by
  refine lcAny (walk_range (lo := 0) (n := n)) (fun R r => ⟨(n : Int), rfl, by omega, by rw [sizeLine_eq] at few; omega, by rw [Int.toNat_natCast]; exact r⟩)
    (fun D i H' => Gr p H H' ∧ PotAt H' p (n0 + i * cost) ∧ ∃ ys ds, H' D = some (.lst ys) ∧ ys.length = i ∧ FdAll K (upd H D (.lst [])) H' ys ds ∧ ∀ d ∈ ds, good d) ?_ (fun _ _ _ _ _ => trivial) ?_ ?_
  · intro D nD
    have s : Same H (upd H D (.lst [])) := Same.put (Same.refl H) nD
    exact ⟨Gr.of s, by rw [Nat.zero_mul]; exact hp.same s, [], [], upd_same, rfl, .nil, fun _ z => nomatch z⟩
  · rintro D nD i x H1 H' hi ⟨gr, pt, ys, ds, e, l, F, gd⟩ y
    obtain ⟨rfl, rfl⟩ := y
    have pD : p ≠ D := fun z => hp.ne (z ▸ nD)
    have hpD : upd H D (.lst []) p ≠ none := by rw [upd_ne pD]; exact hp.ne
    have hDD : upd H D (.lst []) D ≠ none := by rw [upd_same]; exact fun z => nomatch z
    unfold lcTurn
    show g (.int (0 + (i : Int))) _ _ _
    rw [Int.zero_add]
    refine step i _ _ hi gr pt fun v d H4 g4 p4 f4 gd4 => ?_
    have e4 : H4 D = some (.lst ys) := g4.keep D _ (Ne.symm pD) e
    have k5 : Keep (fun b => b = p ∨ b = D) H' (upd H4 D (.lst (ys ++ [v]))) := fun b o nb q => by
      rw [upd_ne fun z => nb (.inr z)]
      exact g4.keep b o (fun z => nb (.inl z)) q
    have k45 : Keep (fun b => b = p ∨ b = D) H4 (upd H4 D (.lst (ys ++ [v]))) := fun b o nb q => by
      rw [upd_ne fun z => nb (.inr z)]
      exact q
    have e5 : upd H4 D (.lst (ys ++ [v])) p = H4 p := upd_ne pD
    have g14 := gr.trans g4
    have ar : n0 + i * cost + cost = n0 + (i + 1) * cost := by rw [Nat.succ_mul]; omega
    refine ⟨ys, e4, by rw [l]; omega, ⟨fun b o nb q => ?_, fun z => by rw [e5]; exact g14.ne z⟩, ?_, ys ++ [v], ds ++ [d], upd_same, by simp [l], (F.later2 hpD hDD k5).snoc ((f4.weak fun b z => ?_).later2 hpD hDD k45), fun x m => ?_⟩
    · rw [upd_ne (ne_of_none q nD)]
      exact g14.keep b o nb q
    · obtain ⟨a, b, c, q, h⟩ := p4
      rw [ar] at h
      exact ⟨a, b, c, by rw [e5]; exact q, h⟩
    · by_cases c : b = D
      · rw [c, e]; exact fun z => nomatch z
      · rw [upd_ne c] at z
        exact gr.dom b z
    · rcases List.mem_append.mp m with m | m
      · exact gd x m
      · rw [List.mem_singleton.mp m]; exact gd4
  · rintro D nD H' ⟨gr, pt, ys, ds, e, l, F, gd⟩
    refine hd D H' ys ds nD gr e pt (by rw [← F.len]; exact l) (F.weak fun b z => ?_) gd
    by_cases c : b = D
    · rw [c, upd_same]; exact fun z => nomatch z
    · rw [upd_ne c]; exact z
theorem max0 (x : Int) : 0 ≤ (if x > 0 then x else 0) := by split <;> omega
theorem ints_at {ns : List Int} {k : Nat} (h : k < ns.length) : (ns.map V.int)[k]? = some (.int ns[k]) := by simp [h]
/-- one of some texts, picked -/
theorem ix_pick {K : PySem.W.Frag} {H : Hp} {Q : VK} {l : Addr} {zs : List Str} {r : Int} (h : SqL K H l (zs.map V.str)) (r0 : 0 ≤ r) (r1 : r < zs.length) (q : ∀ z ∈ zs, Q (.str z) H) : rIxU K (.ref l) (.int r) H Q := by
  obtain ⟨i, rfl⟩ := Int.eq_ofNat_of_zero_le r0
  have hi : i < zs.length := by omega
  exact ix_l h (atI_nat (v := V.str zs[i]) (by simp [hi])) (q _ (List.getElem_mem _))
theorem ix_pickT {K : PySem.W.Frag} {H : Hp} {Q : VK} {l : Addr} {zs : List Str} {r : Int} (h : SqT K H l (zs.map V.str)) (r0 : 0 ≤ r) (r1 : r < zs.length) (q : ∀ z ∈ zs, Q (.str z) H) : rIxU K (.ref l) (.int r) H Q := by
  obtain ⟨i, rfl⟩ := Int.eq_ofNat_of_zero_le r0
  have hi : i < zs.length := by omega
  exact ix_t h (atI_nat (v := V.str zs[i]) (by simp [hi])) (q _ (List.getElem_mem _))
/-- a sign of a written text -/
theorem ix_sign {K : PySem.W.Frag} {H : Hp} {Q : VK} {z : Str} {r : Int} (r0 : 0 ≤ r) (r1 : r < z.cps.toList.length) (l : z.length ≤ sizeLine) (q : ∀ c ∈ z.cps.toList, Q (.str ⟨#[c]⟩) H) : rIxU K (.str z) (.int r) H Q := by
  obtain ⟨i, rfl⟩ := Int.eq_ofNat_of_zero_le r0
  have hi : i < z.cps.toList.length := by omega
  exact .inr ⟨z, _, _, rfl, rfl, l, atI_nat (List.getElem?_eq_getElem hi), q _ (List.getElem_mem _)⟩
/-- two lists put together -/
theorem cat_l {K : PySem.W.Frag} {H : Hp} {Q : VK} {l b : Addr} {xs zs : List V} (h1 : H l = some (.lst xs)) (h2 : H b = some (.lst zs)) (n : xs.length + zs.length ≤ 1000) (q : ∀ p, H p = none → Q (.ref p) (upd H p (.lst (xs ++ zs)))) : rAddU K (.ref l) (.ref b) H Q :=
  .inr (.inl ⟨l, b, xs, zs, rfl, rfl, h1, h2, by rw [sizeLine_eq]; omega, q⟩)
/-- a new thing -/
theorem lay_new {H : Hp} {o : HO} {R : Addr → Prop} (q : ∀ p H', H' = upd H p o → Same H H' → H p = none → H' p = some o → R p) : ∀ p, H p = none → R p := fun p n => q p _ rfl (Same.put (Same.refl H) n) n upd_same
def sign (c : Nat) : Str := ⟨#[c]⟩
theorem joinL_signs : ∀ cs : List Nat, TL.joinL [] (cs.map fun c => [c]) = cs
  | [] => rfl
  | [c] => rfl
  | c :: d :: r => by
    have ih := joinL_signs (d :: r)
    show [c] ++ ([] ++ TL.joinL [] ((d :: r).map fun c => [c])) = _
    rw [ih]
    rfl
theorem join_signs (cs : List Nat) : (Txt.join "" (cs.map sign)).cps.toList = cs := by
  rw [TL.join_eq]
  refine (TL.tl_join "" (cs.map sign)).trans ?_
  rw [List.map_map]
  exact joinL_signs cs
def isSign (d : PyData) : Prop := ∃ c ∈ lettersS.cps.toList, d = .str (sign c)
theorem signs_of {K : PySem.W.Frag} {H H1 : Hp} {ys : List V} {ds : List PyData} (h : FdAll K H H1 ys ds) (g : ∀ d ∈ ds, isSign d) : ∃ cs : List Nat, ys = (cs.map sign).map V.str ∧ cs.length = ds.length ∧ ∀ c ∈ cs, c ∈ lettersS.cps.toList := by
  induction h with
  | nil => exact ⟨[], rfl, rfl, fun _ z => nomatch z⟩
  | cons h _ ih =>
    obtain ⟨cs, e, l, m⟩ := ih fun d hd => g d (List.mem_cons_of_mem _ hd)
    obtain ⟨c, hc, rfl⟩ := g _ List.mem_cons_self
    cases dp_str h.dp
    refine ⟨c :: cs, by rw [e]; rfl, by simp [l], fun x hx => ?_⟩
    rcases List.mem_cons.mp hx with rfl | hx
    · exact hc
    · exact m x hx
theorem name_of {cs : List Nat} (l1 : 1 ≤ cs.length) (l8 : cs.length ≤ 8) (m : ∀ c ∈ cs, c ∈ lettersS.cps.toList) : isNameS (Txt.join "" (cs.map sign)) = true := by
  have e := join_signs cs
  have el : (Txt.join "" (cs.map sign)).length = cs.length := by
    show (Txt.join "" (cs.map sign)).cps.size = _
    rw [← Array.length_toList, e]
  unfold isNameS
  rw [e, el]
  simp only [Bool.and_eq_true, decide_eq_true_eq, List.all_eq_true]
  exact ⟨⟨l1, l8⟩, m⟩
theorem sum_signs (cs : List Nat) : ((cs.map sign).map (·.length)).sum = cs.length := by
  induction cs with
  | nil => rfl
  | cons c r ih =>
    rw [List.map_cons, List.map_cons, List.sum_cons, ih]
    show 1 + r.length = r.length + 1
    omega
theorem letters26 {r : Int} (h : r < 26) : r < ((lettersS.cps.toList.length : Nat) : Int) := by
  have e : lettersS.cps.toList.length = 26 := by decide +kernel
  omega
section
variable {K : PySem.W.Frag} {H : Hp} {Q : VK} {σ : L2.St} {a p : Addr} {xs : List V} {tl : TE} {g : TG} {tb : TS} {D : Ends} {tt : TT} {te : TE} {vs : List Nat}
theorem sqT_gr {H' : Hp} {n : Nat} (h : SqT K H a xs) (pt : PotAt H p n) (g : Gr p H H') : SqT K H' a xs := by
  obtain ⟨x, y, z, e, _⟩ := pt
  rcases h with (h | ⟨o, h⟩) | h
  · exact .inl (.inl (g.keep _ _ (fun c => by rw [c, e] at h; cases h) h))
  · exact .inl (.inr ⟨o, g.keep _ _ (fun c => by rw [c, e] at h; cases h) h⟩)
  · exact .inr h
/-- a loop over range, its count come -/
def RngIn (g : TG) (tb : TS) (D : Ends) (σ : L2.St) (ws : List V) (H : Hp) : Prop := tFor (iRng1 fun _ H Q => Q ws H) g tb D σ H
theorem tFor_rng {ta : TA} : tFor (iRng1 ta) g tb D σ H = ta σ H (RngIn g tb D σ) := rfl
theorem forR {n : Nat} (few : n < sizeLine) (Pv : Nat → L2.St → Hp → Prop) (h0 : Pv 0 σ H)
    (step : ∀ i σ H, i < n → Pv i σ H → g (.int (i : Nat)) σ H fun σ2 H2 => tb { D with nx := Pv (i + 1), ct := Pv (i + 1), bk := D.nx } σ2 H2) (hd : ∀ σ H, Pv n σ H → D.nx σ H) : RngIn g tb D σ [.int (n : Int)] H :=
  ⟨(n : Int), rfl, by omega, by rw [sizeLine_eq] at few; omega, by
    rw [Int.toNat_natCast]
    exact for_it (walk_range (lo := 0) (n := n)) Pv h0 (fun _ _ _ _ _ => trivial) (fun i x σ H H' hi p y => by
      obtain ⟨rfl, rfl⟩ := y
      show g (.int (0 + (i : Int))) _ _ _
      rw [Int.zero_add]
      exact step i σ _ hi p) hd⟩
/-- a comprehension over a list, the list come -/
def LcSeqL (K : PySem.W.Frag) (g : TG) (tt : TT) (te : TE) (vs : List Nat) (σ : L2.St) (Q : VK) (x : V) (H : Hp) : Prop := iList K (fun _ H Q => Q x H) σ H fun J H1 => LcIn J g tt te vs σ Q H1
theorem lc_l (h : tl σ H (LcSeqL K g tt te vs σ Q)) : tLc (fun σ H R => iList K tl σ H R ∨ iTup K tl σ H R ∨ iStr tl σ H R) g tt te vs σ H Q := .inl h
/-- a comprehension over a list, with a test: what F tells -/
theorem lcLf (hs : ∀ H', Same H H' → SqL K H' a xs) (few : xs.length < sizeLine) (F : Nat → List V) (h0 : F 0 = []) (fl : ∀ i, (F i).length ≤ i)
    (step : ∀ i x H' (N : Bool → V → Hp → Prop), xs[i]? = some x → Same H H' →
      (∀ H4, Same H' H4 → F (i + 1) = F i → N false .non H4) → (∀ y H4, Same H' H4 → F (i + 1) = F i ++ [y] → N true y H4) →
      g x (wipe σ vs) H' fun σ2 H2 => wipe σ2 vs = wipe σ vs ∧ tt σ2 H2 fun b H3 => if b = true then te σ2 H3 fun y H4 => N true y H4 else N false .non H3)
    (hd : ∀ D H', H D = none → Same H H' → H' D = some (.lst (F xs.length)) → Q (.ref D) H') :
    LcSeqL K g tt te vs σ Q (.ref a) H := by
  refine ⟨a, rfl, ⟨xs, hs H (Same.refl H)⟩, ?_⟩
  refine lcAnyIn walk_list (fun D i H' => Same H H' ∧ H' D = some (.lst (F i))) (fun D nD => ⟨(Same.put (Same.refl H) nD), by rw [h0]; exact upd_same⟩) (fun D i H' _ q => hs H' q.1) ?_ ?_
  · rintro D nD i x H0 H1 hi ⟨k1, e1⟩ y
    obtain ⟨rfl, hx⟩ := y
    have l := fl i
    have := step i x H1 (fun b y H4 => if b = true then (∃ acc, H4 D = some (.lst acc) ∧ acc.length < sizeLine ∧ (Same H (upd H4 D (.lst (acc ++ [y]))) ∧ upd H4 D (.lst (acc ++ [y])) D = some (.lst (F (i + 1))))) else (Same H H4 ∧ H4 D = some (.lst (F (i + 1))))) hx k1 ?_ ?_
    · exact this
    · intro H4 k4 e
      exact ⟨k1.trans k4, by rw [e]; exact k4 _ _ e1⟩
    · intro y H4 k4 e
      refine ⟨F i, k4 _ _ e1, by omega, fun b o q => ?_, by rw [e]; exact upd_same⟩
      rw [upd_ne (ne_of_none q nD)]
      exact k4 _ _ (k1 _ _ q)
  · rintro D nD H' ⟨k, e⟩
    exact hd D H' nD k e
end
/-- the names that are left -/
theorem nodup_le : ∀ {l zs : List Str}, l.Nodup → (∀ z ∈ l, z ∈ zs) → l.length ≤ zs.length
  | [], _, _, _ => Nat.zero_le _
  | x :: l, zs, hn, hs => by
    obtain ⟨h1, h2⟩ := List.nodup_cons.mp hn
    have hx := hs x List.mem_cons_self
    have := nodup_le (l := l) (zs := zs.erase x) h2 fun z hz => (List.mem_erase_of_ne fun e => h1 (by rw [← e]; exact hz)).mpr (hs z (List.mem_cons_of_mem _ hz))
    rw [List.length_erase_of_mem hx] at this
    have := List.length_pos_of_mem hx
    simp only [List.length_cons]
    omega
def spares : List Str := ["a", "b", "c", "d"]
theorem spare_left {zs : List Str} (h : zs.length ≤ 3) : ∃ z r, spares.filter (fun z => !zs.any fun y => y == z) = z :: r ∧ isNameS z = true ∧ z ∉ zs := by
  cases e : spares.filter (fun z => !zs.any fun y => y == z) with
  | nil =>
    have : ∀ z ∈ spares, z ∈ zs := fun z hz => by
      have := List.filter_eq_nil_iff.mp e z hz
      simp only [Bool.not_eq_true, Bool.not_eq_false', List.any_eq_true, beq_iff_eq] at this
      obtain ⟨y, hy, rfl⟩ := this
      exact hy
    have := nodup_le (by decide +kernel : spares.Nodup) this
    have e4 : spares.length = 4 := rfl
    omega
  | cons z r =>
    have hz : z ∈ spares.filter (fun z => !zs.any fun y => y == z) := by rw [e]; exact List.mem_cons_self
    obtain ⟨h1, h2⟩ := List.mem_filter.mp hz
    refine ⟨z, r, rfl, (by decide +kernel : ∀ z ∈ spares, isNameS z = true) z h1, fun hm => ?_⟩
    simp only [Bool.not_eq_true', List.any_eq_false, beq_iff_eq] at h2
    exact h2 z hm rfl
theorem fd_strs {K : PySem.W.Frag} {H H1 : Hp} : ∀ zs : List Str, FdAll K H H1 (zs.map V.str) (zs.map PyData.str)
  | [] => .nil
  | z :: r => .cons (.str z) (fd_strs r)
theorem filter_more {zs : List Str} {i : Nat} {s : Str} {xs : List Str} (h : xs[i]? = some s) : ((xs.take (i + 1)).filter (fun z => !zs.any fun y => y == z)).map V.str = ((xs.take i).filter (fun z => !zs.any fun y => y == z)).map V.str ++ (if zs.any (fun y => y == s) = true then [] else [V.str s]) := by
  rw [List.take_succ, h, List.filter_append, List.map_append]
  congr 1
  by_cases c : zs.any (fun y => y == s) = true
  · simp [c]
  · rw [Bool.not_eq_true] at c
    simp [c]
/-! ### drawn tests, actions, rules -/
theorem word_mem {ws : List Str} {z : Str} (h : z ∈ ws) : isWordD ws (.str z) = true := by
  unfold isWordD
  rw [List.any_eq_true]
  exact ⟨z, h, by simp⟩
theorem ft_status {dsk : List Str} {z : Str} {b : Bool} (h : z ∈ statusesS) : hasForm testForms dsk (.tuple [.str "status", .str z, .bool b]) = true := by
  have e : hasForm testForms dsk (.tuple [.str "status", .str z, .bool b]) = (isWordD statusesS (.str z) && (true && true)) := rfl
  rw [e, word_mem h]
  rfl
theorem ft_desk {dsk : List Str} {z : Str} {b : Bool} (h : z ∈ dsk) : hasForm testForms dsk (.tuple [.str "desk", .str z, .bool b]) = true := by
  have e : hasForm testForms dsk (.tuple [.str "desk", .str z, .bool b]) = (isWordD dsk (.str z) && (true && true)) := rfl
  rw [e, word_mem h]
  rfl
theorem ft_days {dsk : List Str} {n : Int} (h : 1 ≤ n) (g : n ≤ 30) : hasForm testForms dsk (.tuple [.str "days", .int n]) = true := by
  have e : hasForm testForms dsk (.tuple [.str "days", .int n]) = ((decide (1 ≤ n) && decide (n ≤ 30)) && true) := rfl
  rw [e, decide_eq_true h, decide_eq_true g]
  rfl
theorem ft_answered {dsk : List Str} {b : Bool} : hasForm testForms dsk (.tuple [.str "answered", .bool b]) = true := rfl
theorem ft_marked {dsk : List Str} {b : Bool} : hasForm testForms dsk (.tuple [.str "marked", .bool b]) = true := rfl
theorem fa_status {dsk : List Str} {z : Str} (h : z ∈ statusesS) : hasForm actionForms dsk (.tuple [.str "status", .str z]) = true := by
  have e : hasForm actionForms dsk (.tuple [.str "status", .str z]) = (isWordD statusesS (.str z) && true) := rfl
  rw [e, word_mem h]
  rfl
theorem fa_desk {dsk : List Str} {z : Str} (h : z ∈ dsk) : hasForm actionForms dsk (.tuple [.str "desk", .str z]) = true := by
  have e : hasForm actionForms dsk (.tuple [.str "desk", .str z]) = (isWordD dsk (.str z) && true) := rfl
  rw [e, word_mem h]
  rfl
theorem fa_mark {dsk : List Str} {b : Bool} : hasForm actionForms dsk (.tuple [.str "mark", .bool b]) = true := rfl
theorem fa_reply {dsk : List Str} : hasForm actionForms dsk (.tuple [.str "reply"]) = true := rfl
theorem fa_stop {dsk : List Str} : hasForm actionForms dsk (.tuple [.str "stop"]) = true := rfl
/-- a thing drawn with desks: cost draws -/
def spDraw (K : PySem.W.Frag) (cost : Nat) (good : List Str → PyData → Prop) : Sp := fun vs H Q _ => ∃ (p a : Addr) (n : Nat) (dsk : List Str), vs = [.ref p, .ref a] ∧ PotAt H p n ∧ n + cost < 2 ^ 60 ∧ SqT K H a (dsk.map V.str) ∧ 1 ≤ dsk.length ∧ dsk.length ≤ 4 ∧
  ∀ v d H', good dsk d → Fd K H H' v d → Gr p H H' → PotAt H' p (n + cost) → Q v H'
/-! ### unions that stay folded; parts of tuples -/
def rOr (r r' : R2) : R2 := fun x y H Q => r x y H Q ∨ r' x y H Q
theorem opOr {X : Cx} {f : Value → Value → Sem Value} {r r' : R2} (h : OpR X f r) (h' : OpR X f r') : OpR X f (rOr r r') := h.or h'
def rOrC (r r' : List V → Hp → VK → Prop) : List V → Hp → VK → Prop := fun xs H Q => r xs H Q ∨ r' xs H Q
theorem callOr {X : Cx} {f : Value} {r r' : List V → Hp → VK → Prop} (h : CallR X f r) (h' : CallR X f r') : CallR X f (rOrC r r') := h.or h'
def cutD (r : List PyData) (lo hi : Option Int) : List PyData := (r.drop (HT.sIx r.length 0 lo)).take (HT.sIx r.length r.length hi - HT.sIx r.length 0 lo)
theorem cutD_to {r : List PyData} {k : Nat} (h : k ≤ r.length) : cutD r none (some (k : Int)) = r.take k := by
  unfold cutD
  rw [HT.sIx_none, HT.sIx_nat, List.drop_zero, Nat.sub_zero, Nat.min_eq_left h]
theorem cutD_from {r : List PyData} {k : Nat} (h : k ≤ r.length) : cutD r (some (k : Int)) none = r.drop k := by
  unfold cutD
  rw [HT.sIx_none, HT.sIx_nat, Nat.min_eq_left h, List.take_of_length_le (by rw [List.length_drop]; omega)]
theorem dps_cut {K : PySem.W.Frag} {H : Hp} {xs : List V} {r : List PyData} (h : DpAll K H xs r) (lo hi : Option Int) : DpAll K H (cutV xs lo hi) (cutD r lo hi) := by
  unfold cutV cutD
  rw [dps_len h]
  exact dps_take _ (dps_drop _ h)
theorem sl_dp {K : PySem.W.Frag} {H : Hp} {Q : VK} {x : V} {r : List PyData} {lo hi : Option Int} (h : Dp K H x (.tuple r)) (q : ∀ v H', Same H H' → Dp K H' v (.tuple (cutD r lo hi)) → Q v H') : rSlU K x lo hi H Q := by
  obtain ⟨a, xs, rfl, sx, dx⟩ := dp_tup h
  refine .inr (.inl ⟨a, xs, rfl, sx, fun z => ?_, fun _ p n => ?_⟩)
  · refine q _ _ (Same.refl H) ?_
    have e : cutD r lo hi = r := by
      unfold cutD
      rw [← dps_len dx, z.1, z.2, List.drop_zero, Nat.sub_zero, dps_len dx, List.take_length]
    rw [e]
    exact h
  · have k : Same H (upd H p (.tup (cutV xs lo hi))) := Same.put (Same.refl H) n
    exact q _ _ k (.tup (.inl (.inl upd_same)) (dpsSame k (dps_cut dx lo hi)))
/-- a comprehension over range, with a test: what F tells -/
theorem lcRf {K : PySem.W.Frag} {H : Hp} {Q : VK} {σ : L2.St} {g : TG} {tt : TT} {te : TE} {vs : List Nat} {n : Nat} (few : n < sizeLine) (F : Nat → List V) (h0 : F 0 = []) (fl : ∀ i, (F i).length ≤ i)
    (step : ∀ i H' (N : Bool → V → Hp → Prop), i < n → Same H H' →
      (∀ H4, Same H' H4 → F (i + 1) = F i → N false .non H4) → (∀ y H4, Same H' H4 → F (i + 1) = F i ++ [y] → N true y H4) →
      g (.int (i : Nat)) (wipe σ vs) H' fun σ2 H2 => wipe σ2 vs = wipe σ vs ∧ tt σ2 H2 fun b H3 => if b = true then te σ2 H3 fun y H4 => N true y H4 else N false .non H3)
    (hd : ∀ D H', H D = none → Same H H' → H' D = some (.lst (F n)) → Q (.ref D) H') : LcRng g tt te vs σ Q [.int (n : Int)] H := by
  refine lcAny (walk_range (lo := 0) (n := n)) (fun R r => ⟨(n : Int), rfl, by omega, by rw [sizeLine_eq] at few; omega, by rw [Int.toNat_natCast]; exact r⟩)
    (fun D i H' => Same H H' ∧ H' D = some (.lst (F i))) (fun D nD => ⟨(Same.put (Same.refl H) nD), by rw [h0]; exact upd_same⟩) (fun _ _ _ _ _ => trivial) ?_ ?_
  · rintro D nD i x H1 H' hi ⟨k1, e1⟩ y
    obtain ⟨rfl, rfl⟩ := y
    unfold lcTurn
    show g (.int (0 + (i : Int))) _ _ _
    rw [Int.zero_add]
    have l := fl i
    refine step i _ (fun b y H4 => if b = true then (∃ acc, H4 D = some (.lst acc) ∧ acc.length < sizeLine ∧ (Same H (upd H4 D (.lst (acc ++ [y]))) ∧ upd H4 D (.lst (acc ++ [y])) D = some (.lst (F (i + 1))))) else (Same H H4 ∧ H4 D = some (.lst (F (i + 1))))) hi k1 ?_ ?_
    · intro H4 k4 e
      exact ⟨k1.trans k4, by rw [e]; exact k4 _ _ e1⟩
    · intro y H4 k4 e
      refine ⟨F i, k4 _ _ e1, by omega, fun b o q => ?_, by rw [e]; exact upd_same⟩
      rw [upd_ne (ne_of_none q nD)]
      exact k4 _ _ (k1 _ _ q)
  · rintro D nD H' ⟨k, e⟩
    exact hd D H' nD k e
/-- isinstance(x, (tuple, list)) -/
theorem isiT_dp {K : PySem.W.Frag} {H : Hp} {v : V} {d : PyData} {p : Addr} {Q : VK} (e : H p = some (.tup [.ty "tuple", .ty "list"])) (h : Dp K H v d) (q : Q (.bl (isD "tuple" d || isD "list" d)) H) : rIsiT K [v, .ref p] H Q := by
  refine ⟨v, p, _, .type (tyD d), [.type "tuple", .type "list"], _, rfl, e, .cons (.ty _) (.cons (.ty _) .nil), tyx h, ?_, q⟩
  refine kitAny_cons (kit_ty (kitD _ (dp_kind h) "tuple" (by decide))) (fun hb => ?_) (fun hb => ?_)
  · refine kitAny_cons (kit_ty (kitD _ (dp_kind h) "list" (by decide))) (r := isD "tuple" d || isD "list" d) (b := isD "list" d) (fun hb2 => ?_) (fun hb2 => ?_)
    · have h1 : isD "tuple" d = false := hb
      rw [h1, hb2]
      rfl
    · rw [hb2, Bool.or_true]
  · have h1 : isD "tuple" d = true := hb
    rw [h1, Bool.true_or]
def leafD : PyData → Bool
  | .none | .bool _ | .int _ | .str _ => true
  | _ => false
/-- data that is not deeper than n, nor wide -/
def okAl : Nat → PyData → Prop
  | 0, d => leafD d = true
  | n + 1, .tuple ds => ds.length ≤ 500000 ∧ ∀ e ∈ ds, okAl n e
  | n + 1, .list ds => ds.length ≤ 500000 ∧ ∀ e ∈ ds, okAl n e
  | _ + 1, d => leafD d = true
theorem leaf_eq {K : PySem.W.Frag} {H : Hp} {Q : VK} {x y : V} {d : PyData} (hx : Dp K H x d) (hy : Dp K H y d) (l : leafD d = true) (q : Q (.bl true) H) : rEqU K x y H Q := by
  have e : x = y := by
    cases hx <;> first | exact Bool.noConfusion l | (cases hy; rfl)
  subst e
  unfold rEqU
  by_cases c : scal x x = true
  · rw [if_pos c, decide_eq_true rfl]
    exact q
  · rw [if_neg c]
    refine ⟨d, d, hx, hx, ?_, ?_, ?_⟩
    all_goals (cases hx <;> first | exact Bool.noConfusion l | rfl | (exact absurd rfl c) | skip)
    all_goals first | exact q | skip
/-- data of tuples alone -/
def tpD : Nat → PyData → Prop
  | 0, d => leafD d = true
  | n + 1, .tuple ds => ∀ e ∈ ds, tpD n e
  | _ + 1, d => leafD d = true
theorem dps_map {K : PySem.W.Frag} {H H' : Hp} : ∀ {xs : List V} {ds : List PyData}, DpAll K H xs ds → (∀ v d, d ∈ ds → Dp K H v d → Dp K H' v d) → DpAll K H' xs ds
  | _, _, .nil, _ => .nil
  | _, _, .cons h t, f => .cons (f _ _ List.mem_cons_self h) (dps_map t fun v d m => f v d (List.mem_cons_of_mem _ m))
theorem dp_leaf {K : PySem.W.Frag} {H H' : Hp} {v : V} {d : PyData} (l : leafD d = true) (h : Dp K H v d) : Dp K H' v d := by
  cases h <;> first | exact Bool.noConfusion l | exact .non | exact .bl _ | exact .int _ | exact .str _
theorem dp_gr {K : PySem.W.Frag} {H H' : Hp} {p : Addr} {k : Nat} (pt : PotAt H p k) (g : Gr p H H') : ∀ (n : Nat) {v : V} {d : PyData}, tpD n d → Dp K H v d → Dp K H' v d
  | 0, _, _, t, h => dp_leaf t h
  | n + 1, v, .tuple ds, t, h => by
    obtain ⟨a, xs, rfl, s, dx⟩ := dp_tup h
    exact .tup (sqT_gr s pt g) (dps_map dx fun v d m h => dp_gr pt g n (t d m) h)
  | n + 1, v, .list ds, t, h => dp_leaf t h
  | n + 1, v, .none, t, h => dp_leaf t h
  | n + 1, v, .bool _, t, h => dp_leaf t h
  | n + 1, v, .int _, t, h => dp_leaf t h
  | n + 1, v, .str _, t, h => dp_leaf t h
  | n + 1, v, .dict _, t, h => dp_leaf t h
theorem kRev {X : Cx} {K : PySem.W.Frag} {e : Expr} {te : TE} {k : Nat} {p1 p2 p3 pos : Pos} (he : PE X e te) (hK : X.K = K := by rfl) : PE X (.Subscript e (.Slice none none (some (.UnaryOp .USub (.Constant (.int 1) k p1) p2)) p3) pos) (tRevL K te) := hK ▸ pe_revL he
/-- a loop over a tuple, the tuple come -/
def ForT (K : PySem.W.Frag) (g : TG) (tb : TS) (D : Ends) (σ : L2.St) (x : V) (H : Hp) : Prop := iTup K (fun _ H Q => Q x H) σ H fun J H1 => ∃ W : Nat → Nat → L2.St → Hp → Prop, (∃ m, W 0 m σ H1) ∧ ∀ i m σ H, W i m σ H →
  (J.stop i H ∧ D.nx σ H) ∨ (J.go i H ∧ ∃ N : L2.St → Hp → Prop, (∀ σ' H', N σ' H' → ∃ m', m' < m ∧ W (i + 1) m' σ' H') ∧ ∀ x H', J.yld i H x H' → g x σ H' fun σ2 H2 => tb { D with nx := N, ct := N, bk := D.nx } σ2 H2)
theorem for_t {K : PySem.W.Frag} {tl : TE} {g : TG} {tb : TS} {D : Ends} {σ : L2.St} {H : Hp} (h : tl σ H (ForT K g tb D σ)) : tFor (fun σ H R => iList K tl σ H R ∨ iTup K tl σ H R ∨ iStr tl σ H R) g tb D σ H := .inr (.inl h)
theorem forTx {K : PySem.W.Frag} {g : TG} {tb : TS} {D : Ends} {σ : L2.St} {H : Hp} {a : Addr} {xs : List V} (hs : SqT K H a xs) (Pv : Nat → L2.St → Hp → Prop) (h0 : Pv 0 σ H) (hG : ∀ i σ H, i ≤ xs.length → Pv i σ H → SqT K H a xs)
    (step : ∀ i x σ H, xs[i]? = some x → Pv i σ H → g x σ H fun σ2 H2 => tb { D with nx := Pv (i + 1), ct := Pv (i + 1), bk := D.nx } σ2 H2) (hd : ∀ σ H, Pv xs.length σ H → D.nx σ H) : ForT K g tb D σ (.ref a) H :=
  ⟨a, rfl, ⟨xs, hs⟩, for_it walk_tup Pv h0 hG (fun i x σ H H' _ p y => by
    obtain ⟨rfl, e⟩ := y
    exact step i x σ _ e p) hd⟩
end Ld

set_option Elab.async false
set_option linter.all false
set_option maxRecDepth 100000
set_option maxHeartbeats 2000000
/-! More of lists: parts, values that stand while others change. -/
namespace Ld
open PySem PySem.Spec PyProof.Rows L2
theorem sl_l {K : PySem.W.Frag} {H : Hp} {Q : VK} {l : Addr} {xs : List V} {lo hi : Option Int} (h : SqL K H l xs) (q : ∀ p, H p = none → Q (.ref p) (upd H p (.lst (cutV xs lo hi)))) : rSlU K (.ref l) lo hi H Q := .inl ⟨l, xs, rfl, h, q⟩
theorem cutV_to {xs : List V} {k : Nat} (h : k ≤ xs.length) : cutV xs none (some (k : Int)) = xs.take k := by
  unfold cutV
  rw [HT.sIx_none, HT.sIx_nat, Nat.min_eq_left h]
  simp
theorem cutV_from {xs : List V} {k : Nat} (h : k ≤ xs.length) : cutV xs (some (k : Int)) none = xs.drop k := by
  unfold cutV
  rw [HT.sIx_none, HT.sIx_nat, Nat.min_eq_left h]
  rw [List.take_of_length_le (by simp)]
theorem FdAll.app {K : PySem.W.Frag} {H H1 : Hp} {vs us : List V} {ds es : List PyData} (h : FdAll K H H1 vs ds) (g : FdAll K H H1 us es) : FdAll K H H1 (vs ++ us) (ds ++ es) := by
  induction h with
  | nil => exact g
  | cons h _ ih => exact .cons h ih
theorem FdAll.ints {K : PySem.W.Frag} {H H1 : Hp} : ∀ ns : List Int, FdAll K H H1 (ns.map V.int) (ns.map PyData.int)
  | [] => .nil
  | n :: r => .cons (.int n) (FdAll.ints r)
theorem FdAll.take {K : PySem.W.Frag} {H H1 : Hp} : ∀ {vs : List V} {ds : List PyData} (k : Nat), FdAll K H H1 vs ds → FdAll K H H1 (vs.take k) (ds.take k)
  | _, _, 0, _ => .nil
  | _, _, _ + 1, .nil => .nil
  | _, _, k + 1, .cons h t => .cons h (FdAll.take k t)
theorem FdAll.drop {K : PySem.W.Frag} {H H1 : Hp} : ∀ {vs : List V} {ds : List PyData} (k : Nat), FdAll K H H1 vs ds → FdAll K H H1 (vs.drop k) (ds.drop k)
  | _, _, 0, h => h
  | _, _, _ + 1, .nil => .nil
  | _, _, k + 1, .cons h t => FdAll.drop k t
theorem FdAll.nth {K : PySem.W.Frag} {H H1 : Hp} : ∀ {vs : List V} {ds : List PyData} {k : Nat} {d : PyData}, FdAll K H H1 vs ds → ds[k]? = some d → ∃ v, vs[k]? = some v ∧ Fd K H H1 v d
  | _, _, 0, _, .cons h t, e => ⟨_, rfl, by cases e; exact h⟩
  | _, _, k + 1, _, .cons h t, e => by
    obtain ⟨v, a, b⟩ := FdAll.nth (k := k) t (by simpa using e)
    exact ⟨v, by simpa using a, b⟩
theorem FdAll.dps {K : PySem.W.Frag} {H H1 : Hp} {vs : List V} {ds : List PyData} (h : FdAll K H H1 vs ds) : DpAll K H1 vs ds := h.get (fun _ => False) H1 (fun _ z => z.elim) (Keep.refl H1)
theorem FdAll.mk {K : PySem.W.Frag} {H H1 H2 : Hp} {vs : List V} {ds : List PyData} {p : Addr} (h : FdAll K H H1 vs ds) (hp : H p ≠ none) (g : Gr p H1 H2) : FdAll K H H2 vs ds := h.later hp g
/-- what is no tuple -/
theorem isi_no {K : PySem.W.Frag} {H : Hp} {x : V} {t : Value} {Q : VK} (ht : TyX K H x t) (hk : PySem.W.kitOne K t (.type "tuple") = some false) (q : Q (.bl false) H) : rIsi K [x, .ty "tuple"] H Q := ⟨x, .ty "tuple", t, .type "tuple", false, rfl, .ty _, ht, hk, q⟩
theorem eraseIdx_ints (ns : List Int) (k : Nat) : (ns.map V.int).eraseIdx k = (ns.eraseIdx k).map V.int := by
  induction ns generalizing k with
  | nil => simp
  | cons n r ih => cases k with
    | zero => simp
    | succ k => simp [ih]
theorem seqIndex_nat {k n : Nat} (h : k < n) : seqIndex? (k : Int) n = some k := by
  unfold seqIndex?
  simp
  omega
/-- what comes behind a choice, proved once -/
theorem if_both {c : Prop} [Decidable c] {A B : Prop} {C Cond : V → Hp → Prop} (hb : (∀ v H, Cond v H → C v H) → B) (ha : (∀ v H, Cond v H → C v H) → A) (main : ∀ v H, Cond v H → C v H) : if c then A else B := by
  split
  · exact ha main
  · exact hb main
theorem cutD_take {r : List PyData} {k : Nat} : cutD r none (some (k : Int)) = r.take k := by
  unfold cutD
  rw [HT.sIx_none, HT.sIx_nat]
  simp
theorem dpa_strs {K : PySem.W.Frag} {H : Hp} : ∀ ws : List Str, DpAll K H (ws.map V.str) (ws.map PyData.str)
  | [] => .nil
  | z :: r => .cons (.str z) (dpa_strs r)
/-- the rows within a for -/
def forBody : Stmt → List Stmt
  | .For _ _ b _ _ => b
  | _ => []
def rowsIn (l : List Stmt) (i : Nat) : List Stmt := (l[i]?).elim [] forBody
end Ld

set_option Elab.async false
set_option linter.all false
set_option maxRecDepth 100000
set_option maxHeartbeats 2000000
/-! A tuple turned about: t[::-1]. -/
namespace Ld
open PySem PySem.Spec PyProof.Rows L2
theorem fm_congr {α β : Type} {f g : α → Option β} : ∀ {l : List α}, (∀ x ∈ l, f x = g x) → l.filterMap f = l.filterMap g
  | [], _ => rfl
  | x :: r, h => by
    rw [List.filterMap_cons, List.filterMap_cons, h x List.mem_cons_self, fm_congr fun y m => h y (List.mem_cons_of_mem _ m)]
section
variable {prog : Program} {w : World} {A : Around} {E : Value → Shared → Prop} {s : Shared}
theorem back_adjust (n : Nat) : Builtin.Slice.sliceAdjust none none (-1) (n : Int) = ((n : Int) - 1, -1) := by
  unfold Builtin.Slice.sliceAdjust
  simp
theorem back_places (n : Nat) : Builtin.Slice.slicePlaces ((n : Int) - 1) (-1) (-1) = n := by
  unfold Builtin.Slice.slicePlaces
  rw [if_neg (by decide)]
  split
  · rw [show (-(-1) : Int) = 1 by decide, Int.ediv_one]
    omega
  · omega
theorem back_applied {c : Addr} {x y z : Value} {n : Nat} {Q : Int × Int × Nat → Shared → Prop} (hs : s.heap.IsSliceOf c x y z) (px : IsPart x none) (py : IsPart y none) (pz : IsPart z (some (-1))) (h : Q ((n : Int) - 1, -1, n) s) :
    wpAny (model prog w) A (Builtin.Slice.sliceApplied (.ref c) (pure (n : Int))) Q E s := by
  obtain ⟨o, e1, e2, e3⟩ := id hs
  unfold Builtin.Slice.sliceApplied Builtin.Slice.sliceFields
  refine wpAny_bind (wpAny_bind (wpAny_field e1 e3 (x := x) rfl (wpAny_bind (wpAny_field e1 e3 (x := y) rfl (wpAny_bind (wpAny_field e1 e3 (x := z) rfl (wpAny_pure ?_)))))))
  refine wpAny_bind (HT.slicePart_ pz ?_)
  show wpAny _ _ (if ((-1 : Int) == 0) = true then _ else _) _ _ s
  rw [if_neg (by decide)]
  refine wpAny_bind (HT.slicePart_ px (wpAny_bind (HT.slicePart_ py (wpAny_bind (wpAny_pure ?_)))))
  show wpAny _ _ (match Builtin.Slice.sliceAdjust none none (-1) (n : Int) with | (i, j) => pure (i, (-1 : Int), Builtin.Slice.slicePlaces i j (-1))) _ _ s
  rw [back_adjust]
  show wpAny _ _ (pure ((n : Int) - 1, (-1 : Int), Builtin.Slice.slicePlaces ((n : Int) - 1) (-1) (-1))) _ _ s
  rw [back_places]
  exact wpAny_pure h
theorem back_pick (xs : Array Value) : ((List.range xs.size).filterMap fun (m : Nat) => xs[((xs.size : Int) - 1 + (m : Int) * (-1)).toNat]?).toArray = xs.toList.reverse.toArray := by
  congr 1
  have e : (List.range xs.size).filterMap (fun (m : Nat) => xs[((xs.size : Int) - 1 + (m : Int) * (-1)).toNat]?) = (List.range xs.size).filterMap ((fun j => xs[j]?) ∘ fun m => xs.size - 1 - m) := by
    apply fm_congr
    intro m hm
    have hm := List.mem_range.mp hm
    show _ = xs[xs.size - 1 - m]?
    congr 1
    omega
  rw [e, ← List.filterMap_map, PySem.W.krv_range, List.filterMap_reverse, PySem.W.krv_all]
theorem getItem_back {t c : Addr} {xs : Array Value} {x y z : Value} {Q : Value → Shared → Prop} (ht : IsTup s.heap t xs) (hs : s.heap.IsSliceOf c x y z) (px : IsPart x none) (py : IsPart y none) (pz : IsPart z (some (-1))) (fit : xs.size ≤ sizeLine)
    (h : Q (.ref s.heap.objs.size) { s with heap := s.heap.push { cls := .type "tuple", data := .seq xs.toList.reverse.toArray } }) : wpAny (model prog w) A (getItem (.ref t) (.ref c)) Q E s := by
  have okz : sizeOk (.seq xs.toList.reverse.toArray) := (show xs.toList.reverse.toArray.size ≤ sizeLine by simpa using fit)
  obtain ⟨o, e1, e2, _⟩ := id hs
  unfold getItem
  try with_reducible refine wpAny_holding ?_
  first
    | refine wpAny_bind (wpAny_pure ?_)
    | skip
  refine wpAny_bind (wpAny_sequenceKey ht.typeIs (by decide) (wpAny_bind (wpAny_callSpecial?_slot (name := Str.ofString "__getitem__") ht.typeIs slot_tuple_getitem (wpAny_call_entry slot_tuple_getitem ht.typeIs entry_tuple_getitem ?_ (args_tuple_getitem _ _)))))
  show wpAny _ _ (Builtin.Tuple.tupleItemsOf (.ref t) >>= _) _ _ s
  refine wpAny_bind (tupleItemsOf_ ht (wpAny_bind (wpAny_typeOf (show s.TypeIs (.ref c) "slice" from ⟨o, e1, e2⟩) ?_)))
  rw [if_pos (by decide)]
  refine wpAny_bind (back_applied hs px py pz ?_)
  show wpAny _ _ (if (((xs.size : Int) - 1) == 0 && (-1 : Int) == 1 && xs.size == xs.size) = true then _ else _) _ _ s
  rw [if_neg (by rw [show ((-1 : Int) == 1) = false by decide, Bool.and_false, Bool.false_and]; exact Bool.false_ne_true), back_pick]
  first
    | exact wpAny_bind (wpAny_bind (m := Builtin.Tuple.tupleExact _) (wpAny_newObj_type (wpAny_pure (wpAny_pure ⟨_, rfl, wpAny_pure h⟩)) okz))
    | exact wpAny_bind (wpAny_bind (m := Builtin.Tuple.tupleExact _) (wpAny_newObj_type (wpAny_pure ⟨_, rfl, wpAny_pure h⟩) okz))
    | exact wpAny_bind (m := Builtin.Tuple.tupleExact _) (wpAny_newObj_type (wpAny_bind (wpAny_pure (wpAny_pure ⟨_, rfl, wpAny_pure h⟩))) okz)
    | exact wpAny_bind (m := Builtin.Tuple.tupleExact _) (wpAny_newObj_type (wpAny_pure ⟨_, rfl, wpAny_pure h⟩) okz)
end
/-- t[::-1] -/
def tRevT (K : PySem.W.Frag) (te : TE) : TE := fun σ H Q => te σ H fun x H1 => ∃ a xs, x = .ref a ∧ SqT K H1 a xs ∧ ∀ p, H1 p = none → Q (.ref p) (upd H1 p (.tup xs.reverse))
theorem pe_revT {X : Cx} {K : PySem.W.Frag} {e : Expr} {te : TE} {k : Nat} {p1 p2 p3 pos : Pos} (he : PE X e te) (hK : X.K = K := by rfl) : PE X (.Subscript e (.Slice none none (some (.UnaryOp .USub (.Constant (.int 1) k p1) p2)) p3) pos) (tRevT K te) := by
  subst hK
  refine ⟨fun pins s σ H Q I h => Subscript_ (thn (he.run pins s σ H _ I h) fun v s1 ⟨x, H1, I1, r1, a, xs, ex, hx, q⟩ => ?_)⟩
  subst ex
  cases r1
  have step : PO X (some (.UnaryOp .USub (.Constant (.int 1) k p1) p2)) (tPart (tUn (rU fun i => .int (-i)) (tC (.int 1)))) := po_some (pe_un un_neg pe_int)
  refine wpAny_Slice (thn (po_none.run pins s1 σ H1 (fun o G => o = none ∧ G = H1) I1 ⟨rfl, rfl⟩) fun u1 s2 ⟨o2, H2, I2, q2, f2, g2⟩ => ?_)
  subst f2 g2
  refine thn (po_none.run pins s2 σ H2 (fun o G => o = none ∧ G = H2) I2 ⟨rfl, rfl⟩) fun u2 s3 ⟨o3, H3, I3, q3, f3, g3⟩ => ?_
  subst f3 g3
  refine thn (step.run pins s3 σ H3 (fun o G => o = some (-1) ∧ G = H3) I3 ⟨1, rfl, -1, rfl, rfl, rfl⟩) fun u3 s4 ⟨o4, H4, I4, q4, f4, g4⟩ => ?_
  subst f4 g4
  have J : Inv X pins σ H4 { s4 with heap := s4.heap.push { cls := .type "slice", data := .fields #[u1, u2, u3] } } := I4.kept (t' := s4.toks) fun b ob z => Heap.get?_push_of_some _ z
  obtain ⟨its, r, ht, hz⟩ := J.tuple hx
  have hlen := r.length
  have fit : its.toArray.size ≤ sizeLine := by rw [List.size_toArray]; omega
  show wpAny (model X.prog X.w) X.A (subscriptTail e (.Slice none none (some (.UnaryOp .USub (.Constant (.int 1) k p1) p2)) p3) (.ref a) (.ref s4.heap.objs.size)) (EP X pins σ Q) X.xe _
  refine tail_any (ops := [.ref a, .ref s4.heap.objs.size]) ht.typeIs slot_tuple_getitem.lookup (getItem_back ht (Heap.IsSliceOf.new _ u1 u2 u3) q2 q3 q4 fit ?_) (by with_unfolding_all rfl)
  refine ⟨.ref _, _, J.laid (t' := s4.toks) (o := .tup xs.reverse) (fun b ob z => Heap.get?_push_of_some _ z) (Nat.le_refl _) ?_, rfl, q _ (J.hok.fresh (Nat.le_refl _))⟩
  refine ⟨by rw [List.length_reverse]; exact hz, its.reverse, r.reverse, ?_⟩
  exact ⟨_, Heap.get?_push_size _ rfl, rfl, _, rfl⟩
end Ld

set_option Elab.async false
set_option linter.all false
set_option maxRecDepth 100000
set_option maxHeartbeats 2000000
/-! A dict by (event, ticket): asked, read, written. -/
namespace Ld
open PySem PySem.Spec PyProof.Rows L2
/-- a ticket -/
structure Tk where
  status : Str
  desk : Str
  answered : Bool
  days : Int
  marked : Bool
deriving DecidableEq
def b2i (b : Bool) : Int := if b = true then 1 else 0
theorem b2i_inj {a b : Bool} (h : b2i a = b2i b) : a = b := by cases a <;> cases b <;> simp_all [b2i]
def evKey (e : Str) (t : Tk) : NestedKey := .tup [.text e, .tup [.text t.status, .text t.desk, .num (b2i t.answered), .num t.days, .num (b2i t.marked)]]
theorem evKey_inj {e e' : Str} {t t' : Tk} (h : evKey e t = evKey e' t') : e = e' ∧ t = t' := by
  unfold evKey at h
  injection h with h
  injection h with h1 h
  injection h1 with h1
  injection h with h _
  injection h with h
  injection h with a1 h
  injection h with a2 h
  injection h with a3 h
  injection h with a4 h
  injection h with a5 _
  injection a1 with a1
  injection a2 with a2
  injection a3 with a3
  injection a4 with a4
  injection a5 with a5
  refine ⟨h1, ?_⟩
  obtain ⟨s, d, a, n, m⟩ := t
  obtain ⟨s', d', a', n', m'⟩ := t'
  dsimp only at a1 a2 a3 a4 a5
  rw [a1, a2, b2i_inj a3, a4, b2i_inj a5]
theorem evKey_depth (e : Str) (t : Tk) : (evKey e t).depth ≤ 8 := by
  unfold evKey
  simp [NestedKey.depth, NestedKey.depthAll]
/-- the values of a ticket -/
def Tk.vals (t : Tk) : List V := [.str t.status, .str t.desk, .bl t.answered, .int t.days, .bl t.marked]
def TkAt (H : Hp) (v : V) (t : Tk) : Prop := ∃ a, v = .ref a ∧ H a = some (.tup t.vals)
def KeyAt (H : Hp) (b : Addr) (e : Str) (t : Tk) : Prop := ∃ v, H b = some (.tup [.str e, v]) ∧ TkAt H v t
/-- what stands of a dict, as it is laid -/
def rawD (a : Addr) (es : Array DictEntry) (ep : Nat) : Heap → Prop := fun h => (a == sysModules) = false ∧ ∃ o, h.get? a = some o ∧ o.ExactDict ∧ o.data = .dict es ep
abbrev Ent := Str × Tk × V
/-- the dict at a holds these entries -/
def ND (P : Program) (w : World) (H : Hp) (a : Addr) (kvs : List Ent) : Prop := ∃ es ep xs, H a = some (.ext (rawD a es ep)) ∧ es.toList = xs.map (entryOfKey (nestedKind P w)) ∧ (xs.map (·.1)).Nodup ∧
  Paired (fun (p : Ent) (x : NestedKey × Addr × Value) => x.1 = evKey p.1 p.2.1 ∧ KeyAt H x.2.1 p.1 p.2.1 ∧ RelV p.2.2 x.2.2) kvs xs
def lookE (kvs : List Ent) (e : Str) (t : Tk) : Option V := (kvs.find? fun p => decide (p.1 = e ∧ p.2.1 = t)).map (·.2.2)
section
variable {P : Program} {w : World} {H : Hp} {h : Heap}
theorem all_of : ∀ {ks : List NestedKey} {vs : List Value}, Paired (fun k v => NestedIs h k v) ks vs → NestedAll h ks vs
  | _, _, .nil => .nil
  | _, _, .cons a r => .cons a (all_of r)
theorem tk_is {v : V} {u : Value} {t : Tk} (ok : HOk P w H h) (x : TkAt H v t) (r : RelV v u) : NestedIs h (.tup [.text t.status, .text t.desk, .num (b2i t.answered), .num t.days, .num (b2i t.marked)]) u := by
  obtain ⟨a, rfl, e⟩ := x
  cases (show u = Value.ref a from r)
  obtain ⟨_, its, rv, ⟨⟨oc, od, odt, osl⟩, hg, hc, n, hd⟩⟩ := ok a _ e
  unfold Tk.vals at rv
  cases rv with
  | cons r1 rv =>
  cases rv with
  | cons r2 rv =>
  cases rv with
  | cons r3 rv =>
  cases rv with
  | cons r4 rv =>
  cases rv with
  | cons r5 rv =>
  cases rv
  obtain ⟨_, q1⟩ := r1
  obtain ⟨_, q2⟩ := r2
  obtain ⟨_, q4⟩ := r4
  have q3 : _ = Value.bool t.answered := r3
  have q5 : _ = Value.bool t.marked := r5
  subst q1 q2 q3 q4 q5
  exact .tup hg hc hd (.cons (.text _ _) (.cons (.text _ _) (.cons (.bool rfl) (.cons (.int _ _) (.cons (.bool rfl) .nil)))))
theorem key_is {b : Addr} {e : Str} {t : Tk} (ok : HOk P w H h) (x : KeyAt H b e t) : (nestedKind P w).is h (evKey e t) b := by
  obtain ⟨v, eb, tk⟩ := x
  obtain ⟨_, its, rv, ⟨⟨oc, od, odt, osl⟩, hg, hc, n, hd⟩⟩ := ok b _ eb
  cases rv with
  | cons r1 rv =>
  cases rv with
  | cons r2 rv =>
  cases rv
  obtain ⟨_, q1⟩ := r1
  subst q1
  exact ⟨.tup hg hc hd (.cons (.text _ _) (.cons (tk_is ok tk r2) .nil)), evKey_depth e t⟩
theorem look_rel : ∀ {kvs : List Ent} {xs : List (NestedKey × Addr × Value)}, Paired (fun (p : Ent) (x : NestedKey × Addr × Value) => x.1 = evKey p.1 p.2.1 ∧ KeyAt H x.2.1 p.1 p.2.1 ∧ RelV p.2.2 x.2.2) kvs xs → ∀ (e : Str) (t : Tk), RelO (lookE kvs e t) ((atKey xs (evKey e t)).map (·.2))
  | _, _, .nil, _, _ => trivial
  | p :: kvs, x :: xs, .cons ⟨a, b, c⟩ r, e, t => by
    have ih := look_rel r e t
    unfold lookE atKey at ih ⊢
    rw [List.find?_cons, List.find?_cons]
    by_cases q : p.1 = e ∧ p.2.1 = t
    · have q2 : x.1 = evKey e t := by rw [a, q.1, q.2]
      rw [decide_eq_true q, decide_eq_true q2]
      exact c
    · have q2 : ¬ x.1 = evKey e t := fun z => q (evKey_inj (a.symm.trans z))
      rw [decide_eq_false q, decide_eq_false q2]
      exact ih
theorem ND.at_ {a : Addr} {kvs : List Ent} (ok : HOk P w H h) (d : ND P w H a kvs) : (a == sysModules) = false ∧ ∃ xs, h.DictOfH (nestedKind P w) a xs ∧ ∀ (e : Str) (t : Tk), RelO (lookE kvs e t) ((atKey xs (evKey e t)).map (·.2)) := by
  obtain ⟨es, ep, xs, e, he, nd, pr⟩ := d
  obtain ⟨⟨ns, o, hg, hx, hd⟩, _⟩ := ok a _ e
  refine ⟨ns, xs, ⟨o, es, ep, hg, hx, hd, he, fun x m => ?_, nd⟩, look_rel pr⟩
  clear he nd
  induction pr with
  | nil => cases m
  | cons q _ ih =>
    rcases List.mem_cons.mp m with rfl | m
    · rw [q.1]
      exact key_is ok q.2.1
    · exact ih m
end
theorem raw_ok {P : Program} {w : World} {H : Hp} {h : Heap} {a : Addr} {o : Obj} {es : Array DictEntry} {ep : Nat} (ns : (a == sysModules) = false) (hg : h.get? a = some o) (hx : o.ExactDict) (hd : o.data = .dict es ep) : ObjOk P w H h a (.ext (rawD a es ep)) :=
  ⟨⟨ns, o, hg, hx, hd⟩, ⟨o, hg⟩, fun _ _ ⟨n, q, z, r⟩ k => ⟨n, q, k _ z, r⟩⟩
theorem KeyAt.keep {H H' : Hp} {b : Addr} {e : Str} {t : Tk} (x : KeyAt H b e t) (k : ∀ c vs, H c = some (.tup vs) → H' c = some (.tup vs)) : KeyAt H' b e t := by
  obtain ⟨v, eb, a, rfl, ea⟩ := x
  exact ⟨_, k _ _ eb, a, rfl, k _ _ ea⟩
theorem ND.keep {P : Program} {w : World} {H H' : Hp} {a : Addr} {kvs : List Ent} (d : ND P w H a kvs) (e : ∀ o, H a = some o → H' a = some o) (k : ∀ c vs, H c = some (.tup vs) → H' c = some (.tup vs)) : ND P w H' a kvs := by
  obtain ⟨es, ep, xs, ea, he, nd, pr⟩ := d
  refine ⟨es, ep, xs, e _ ea, he, nd, ?_⟩
  clear he nd
  induction pr with
  | nil => exact .nil
  | cons q _ ih => exact .cons ⟨q.1, q.2.1.keep k, q.2.2⟩ ih
def rNotN (P : Program) (w : World) : R2 := fun x y H Q => ∃ b a kvs e t, x = .ref b ∧ y = .ref a ∧ ND P w H a kvs ∧ KeyAt H b e t ∧ Q (.bl (!(lookE kvs e t).isSome)) H
def tNGet (P : Program) (w : World) (td ty : TE) : TE := fun σ H Q => td σ H fun x H1 => ty σ H1 fun y H2 => ∃ a b kvs e t v, x = .ref a ∧ y = .ref b ∧ ND P w H2 a kvs ∧ KeyAt H2 b e t ∧ lookE kvs e t = some v ∧ Q v H2
def sNPut (P : Program) (w : World) (td ty tv : TE) : TS := fun D σ H => tv σ H fun v H1 => td σ H1 fun x H2 => ty σ H2 fun y H3 => ∃ a b kvs e t, x = .ref a ∧ y = .ref b ∧ ND P w H3 a kvs ∧ KeyAt H3 b e t ∧ lookE kvs e t = none ∧ kvs.length < sizeLine ∧
  ∀ H4, (∀ c, c ≠ a → H4 c = H3 c) → ND P w H4 a (kvs ++ [(e, t, v)]) → D.nx σ H4
def tNNew (P : Program) (w : World) : TE := fun _ H Q => ∀ p H', H p = none → (∀ c, c ≠ p → H' c = H c) → ND P w H' p [] → Q (.ref p) H'
section
variable {X : Cx} {pins : List (Addr × Obj)} {σ : L2.St} {H : Hp} {s : Shared} {A : Around} {E : Value → Shared → Prop}
theorem nroom (hu : A.units + 64 < cLine) : (nestedKind X.prog X.w).room A.in1 := by
  show A.in1.units + 8 < cLine
  have : A.in1.units = A.units + 1 := rfl
  omega
theorem op_notInN (hu : X.A.units + 64 < cLine) : OpR X (compareOp .NotIn) (rNotN X.prog X.w) := by
  intro pins s σ H x y v u Q I rx ry h
  obtain ⟨b, a, kvs, e, t, rfl, rfl, d, k, q⟩ := h
  cases (show v = Value.ref b from rx)
  cases (show u = Value.ref a from ry)
  obtain ⟨ns, xs, dh, lk⟩ := d.at_ I.hok
  refine wpAny_notIn_heap (nroom hu) (key_is I.hok k) ns dh ?_
  have z := (lk e t).isSome_eq
  rw [Option.isSome_map] at z
  rw [← z]
  exact ⟨.bl (!(lookE kvs e t).isSome), H, I.tok _, rfl, q⟩
theorem pe_nget {o i : Expr} {pos : Pos} {td ty : TE} (hu : X.A.units + 64 < cLine) (ho : PE X o td) (hi : PE X i ty) (hs : NoSl i) : PE X (.Subscript o i pos) (tNGet X.prog X.w td ty) := by
  refine ⟨fun pins s σ H Q I h => ?_⟩
  refine subD_of PySem.F.slot_dict_getitem.lookup hs (thn (ho.run pins s σ H _ I h) fun u s1 ⟨x, H1, I1, rx, q1⟩ => thn (hi.run pins s1 σ H1 _ I1 q1) fun iv s2 ⟨y, H2, I2, ry, a, b, kvs, e, t, v, ex, ey, d, k, l, q2⟩ => ?_)
  subst ex ey
  cases (show u = Value.ref a from rx)
  cases (show iv = Value.ref b from ry)
  obtain ⟨ns, xs, dh, lk⟩ := d.at_ I2.hok
  refine ⟨dh.typeIs, ?_⟩
  obtain ⟨w', hw, rw'⟩ := RelO.some_of (v := v) (o := (atKey xs (evKey e t)).map (·.2)) (by rw [← l]; exact lk e t)
  obtain ⟨p, hp, hp2⟩ := Option.map_eq_some_iff.mp hw
  refine wpAny_getItem_heap (nroom hu) (key_is I2.hok k) dh hp ?_
  rw [hp2]
  exact ⟨v, H2, I2.tok _, rw', q2⟩
theorem ps_nput {o i value : Expr} {pos pos' : Pos} {td ty tv : TE} (hu : X.A.units + 64 < cLine) (ho : PE X o td) (hi : PE X i ty) (hv : PE X value tv) (hs : swapsWith value (some (.Subscript o i pos')) pos.line X.env = pure false := by rfl) :
    PS X (.Assign [.Subscript o i pos'] value pos) (sNPut X.prog X.w td ty tv) := by
  refine ⟨fun pins s σ H D I h => ?_⟩
  refine wpAny_Assign_Subscript (thn (hv.run pins s σ H _ I h) fun r s1 ⟨v, H1, I1, rv, q1⟩ => thn (ho.run pins s1 σ H1 _ I1 q1) fun u s2 ⟨x, H2, I2, rx, q2⟩ => thn (hi.run pins s2 σ H2 _ I2 q2) fun iv s3 ⟨y, H3, I3, ry, a, b, kvs, e, t, ex, ey, d, k, l, sz, q3⟩ => ?_) hs
  subst ex ey
  cases (show u = Value.ref a from rx)
  cases (show iv = Value.ref b from ry)
  have hok := I3.hok
  obtain ⟨es, ep, xs, ea, he, nd, pr⟩ := d
  obtain ⟨ns, xs', dh', lk'⟩ := ND.at_ hok ⟨es, ep, xs, ea, he, nd, pr⟩
  have dh : s3.heap.DictOfH (nestedKind X.prog X.w) a xs := by
    obtain ⟨⟨_, o, hg, hx, hd⟩, _⟩ := hok a _ ea
    refine ⟨o, es, ep, hg, hx, hd, he, fun x m => ?_, nd⟩
    clear he nd q3 sz l lk'
    induction pr with
    | nil => cases m
    | cons q _ ih =>
      rcases List.mem_cons.mp m with rfl | m
      · rw [q.1]
        exact key_is hok q.2.1
      · exact ih m
  have no : atKey xs (evKey e t) = none := by
    have z := look_rel pr e t
    rw [l] at z
    cases q : atKey xs (evKey e t) with
    | none => rfl
    | some p => rw [q] at z; exact z.elim
  have lx : xs.length = kvs.length := (Paired.length pr).symm
  refine wpAny_setItem_heap (hsz := by omega) (nroom hu) (key_is hok k) dh fun h' dd hb => ?_
  rw [storedH_new no] at dd
  obtain ⟨o, es', ep', h1, h2, h3, h4, h5, h6⟩ := dd
  have J := d_write (t' := s3.toks + (nestedKind X.prog X.w).draws (evKey e t)) I3 (by rw [ea]; exact True.intro) hb ⟨o, h1⟩ (raw_ok (P := X.prog) (w := X.w) (H := upd H3 a (.ext (rawD a es' ep'))) ns h1 h2 h3)
  refine ⟨σ, upd H3 a (.ext (rawD a es' ep')), J, q3 _ (fun c nc => upd_ne nc) ⟨es', ep', xs ++ [(evKey e t, b, r)], upd_same, h4, h6, ?_⟩⟩
  have stay : ∀ c vs, H3 c = some (.tup vs) → upd H3 a (.ext (rawD a es' ep')) c = some (.tup vs) := fun c vs z => by
    rw [upd_ne fun y => by rw [y, ea] at z; cases z]
    exact z
  have last : Paired (fun (p : Ent) (x : NestedKey × Addr × Value) => x.1 = evKey p.1 p.2.1 ∧ KeyAt (upd H3 a (.ext (rawD a es' ep'))) x.2.1 p.1 p.2.1 ∧ RelV p.2.2 x.2.2) [(e, t, v)] [(evKey e t, b, r)] := .cons ⟨rfl, k.keep stay, rv⟩ .nil
  clear q3 J no lk' dh' dh he nd l sz lx h4 h5 h6
  induction pr with
  | nil => exact last
  | cons q _ ih => exact .cons ⟨q.1, q.2.1.keep stay, q.2.2⟩ ih
theorem pe_dnewN {pos : Pos} : PE X (.Dict [] [] pos) (tNNew X.prog X.w) := by
  refine ⟨fun pins s σ H Q I h => wpAny_Dict_empty ?_⟩
  have ns : (s.heap.objs.size == sysModules) = false := beq_eq_false_iff_ne.mpr (Ne.symm (Nat.ne_of_lt I.big))
  have fr := I.hok.fresh (Nat.le_refl s.heap.objs.size)
  refine ⟨.ref s.heap.objs.size, _, I.laid (a := s.heap.objs.size) (o := .ext (rawD s.heap.objs.size #[] 0)) (t' := s.toks) (fun _ _ q => Heap.get?_push_of_some _ q) (Nat.le_refl _) (raw_ok ns (Heap.get?_push_size _ rfl) ⟨rfl, rfl, rfl⟩ rfl), rfl, h _ _ fr (fun c nc => upd_ne nc) ⟨#[], 0, [], upd_same, rfl, List.nodup_nil, .nil⟩⟩
end
end Ld

set_option Elab.async false
set_option linter.all false
set_option maxRecDepth 100000
set_option maxHeartbeats 2000000
/-! Values that can be held against each other: how deep they are, that each is equal to itself. -/
namespace Ld
open PySem PySem.Spec PyProof.Rows L2
def layD : Nat → PyData → Prop
  | 0, .tuple _ => False
  | 0, .list _ => False
  | n + 1, .tuple ds => ∀ e ∈ ds, layD n e
  | n + 1, .list ds => ∀ e ∈ ds, layD n e
  | _, .str z => PyData.strOk z = true
  | _, .dict _ => False
  | _, _ => True
theorem layAll : ∀ {ds : List PyData} {n : Nat}, (∀ e ∈ ds, e.canLay0 = true ∧ e.depth ≤ n) → PyData.canLayAll0 ds = true ∧ PyData.depthAll ds ≤ n
  | [], n, _ => ⟨by simp [PyData.canLayAll0], by simp [PyData.depthAll]⟩
  | d :: r, n, h => by
    obtain ⟨a, b⟩ := h d List.mem_cons_self
    obtain ⟨c, e⟩ := layAll (ds := r) fun e m => h e (List.mem_cons_of_mem _ m)
    exact ⟨by simp [PyData.canLayAll0, a, c], by simp [PyData.depthAll]; omega⟩
theorem layD.to : ∀ {n : Nat} {d : PyData}, layD n d → d.canLay0 = true ∧ d.depth ≤ n
  | n + 1, .tuple ds, h => by
    obtain ⟨a, b⟩ := layAll (n := n) fun e m => layD.to (h e m)
    exact ⟨by simp [PyData.canLay0, a], by simp [PyData.depth]; omega⟩
  | n + 1, .list ds, h => by
    obtain ⟨a, b⟩ := layAll (n := n) fun e m => layD.to (h e m)
    exact ⟨by simp [PyData.canLay0, a], by simp [PyData.depth]; omega⟩
  | 0, .tuple _, h => h.elim
  | 0, .list _, h => h.elim
  | 0, .str z, h => ⟨by simpa [PyData.canLay0] using (show PyData.strOk z = true from h), by simp [PyData.depth]⟩
  | n + 1, .str z, h => ⟨by simpa [PyData.canLay0] using (show PyData.strOk z = true from h), by simp [PyData.depth]⟩
  | 0, .dict _, h => h.elim
  | n + 1, .dict _, h => h.elim
  | 0, .none, _ => ⟨by simp [PyData.canLay0], by simp [PyData.depth]⟩
  | n + 1, .none, _ => ⟨by simp [PyData.canLay0], by simp [PyData.depth]⟩
  | 0, .bool _, _ => ⟨by simp [PyData.canLay0], by simp [PyData.depth]⟩
  | n + 1, .bool _, _ => ⟨by simp [PyData.canLay0], by simp [PyData.depth]⟩
  | 0, .int _, _ => ⟨by simp [PyData.canLay0], by simp [PyData.depth]⟩
  | n + 1, .int _, _ => ⟨by simp [PyData.canLay0], by simp [PyData.depth]⟩
theorem layD.shaped {n : Nat} {d : PyData} (h : layD n d) (l : n ≤ 64) : SeqAt.shaped d = true := by
  obtain ⟨a, b⟩ := h.to
  unfold SeqAt.shaped
  simp [a]
  omega
theorem eqv_all : ∀ {ds : List PyData}, (∀ e ∈ ds, PyData.eqv e e = true) → PyData.eqvAll ds ds = true
  | [], _ => by simp [PyData.eqvAll]
  | d :: r, h => by
    have a := h d List.mem_cons_self
    have b := eqv_all (ds := r) fun e m => h e (List.mem_cons_of_mem _ m)
    simp [PyData.eqvAll, a, b]
theorem layD.refl : ∀ {n : Nat} {d : PyData}, layD n d → PyData.eqv d d = true
  | n + 1, .tuple ds, h => by
    show PyData.eqvAll ds ds = true
    exact eqv_all fun e m => layD.refl (h e m)
  | n + 1, .list ds, h => by
    show PyData.eqvAll ds ds = true
    exact eqv_all fun e m => layD.refl (h e m)
  | 0, .tuple _, h => h.elim
  | 0, .list _, h => h.elim
  | 0, .str z, h => by simp [PyData.eqv]
  | n + 1, .str z, h => by simp [PyData.eqv]
  | 0, .dict _, h => h.elim
  | n + 1, .dict _, h => h.elim
  | 0, .none, _ => by simp [PyData.eqv]
  | n + 1, .none, _ => by simp [PyData.eqv]
  | 0, .bool _, _ => by simp [PyData.eqv]
  | n + 1, .bool _, _ => by simp [PyData.eqv]
  | 0, .int _, _ => by simp [PyData.eqv]
  | n + 1, .int _, _ => by simp [PyData.eqv]
theorem layD.up : ∀ {n : Nat} {d : PyData}, layD n d → layD (n + 1) d
  | n + 1, .tuple ds, h => fun e m => layD.up (h e m)
  | n + 1, .list ds, h => fun e m => layD.up (h e m)
  | 0, .tuple _, h => h.elim
  | 0, .list _, h => h.elim
  | 0, .str z, h => h
  | n + 1, .str z, h => h
  | 0, .dict _, h => h.elim
  | n + 1, .dict _, h => h.elim
  | 0, .none, h => h
  | n + 1, .none, h => h
  | 0, .bool _, h => h
  | n + 1, .bool _, h => h
  | 0, .int _, h => h
  | n + 1, .int _, h => h
def lowOk (dsk : List Str) : Prop := ∀ z ∈ dsk, PyData.strOk z = true
theorem word_lay {ws : List Str} {d : PyData} (o : lowOk ws) (h : isWordD ws d = true) : layD 0 d := by
  cases d <;> first | exact Bool.noConfusion h | skip
  rename_i z
  unfold isWordD at h
  rw [List.any_eq_true] at h
  obtain ⟨y, m, e⟩ := h
  have e : y = z := by simpa using e
  exact e ▸ o y m
theorem statuses_ok : lowOk statusesS := by unfold lowOk; decide +kernel
theorem events_ok : lowOk eventsS := by unfold lowOk; decide +kernel
theorem fits_lay {dsk : List Str} {k : Str} {d : PyData} (o : lowOk dsk) (h : fitsKind dsk k d = true) : layD 0 d := by
  unfold fitsKind at h
  split at h
  · exact word_lay statuses_ok h
  · split at h
    · exact word_lay o h
    · cases d <;> first | trivial | skip
      all_goals
        repeat' split at h
        all_goals exact Bool.noConfusion h
theorem form_lay {fs : List (List Str)} {dsk : List Str} {e : PyData} (o : lowOk dsk) (hf : ∀ f ∈ fs, lowOk f) (h : hasForm fs dsk e = true) : layD 1 e := by
  unfold hasForm at h
  split at h
  · rename_i w rest
    split at h
    · rename_i f hq
      have m := List.mem_of_find?_eq_some hq
      have p := List.find?_some hq
      unfold formIs at p
      simp only [Bool.and_eq_true, decide_eq_true_eq] at p
      rw [List.all_eq_true] at h
      intro x hx
      rcases List.mem_cons.mp hx with rfl | hx
      · cases f with
        | nil => simp at p
        | cons a b =>
          have e : a = w := by simpa using p.1
          exact hf _ m w (by rw [e]; exact List.mem_cons_self)
      · obtain ⟨i, hi, rfl⟩ := List.mem_iff_getElem.mp hx
        have hi2 : i < f.tail.length := by omega
        have hz : (rest[i], f.tail[i]) ∈ rest.zip f.tail := by
          rw [List.mem_iff_getElem]
          exact ⟨i, by rw [List.length_zip]; omega, by simp⟩
        exact fits_lay o (h _ hz)
    · cases h
  · cases h
theorem testF_ok : ∀ f ∈ testForms, lowOk f := by unfold lowOk; decide +kernel
theorem actionF_ok : ∀ f ∈ actionForms, lowOk f := by unfold lowOk; decide +kernel
theorem deedF_ok : ∀ f ∈ deedForms, lowOk f := by unfold lowOk; decide +kernel
theorem rule_lay {dsk : List Str} {e : PyData} (o : lowOk dsk) (h : isRuleD dsk e = true) : layD 3 e := by
  unfold isRuleD at h
  split at h
  · rename_i ev ts as
    simp only [Bool.and_eq_true, decide_eq_true_eq, List.all_eq_true] at h
    obtain ⟨⟨⟨⟨⟨h1, _⟩, ht⟩, _⟩, _⟩, ha⟩ := h
    intro x hx
    rcases List.mem_cons.mp hx with rfl | hx
    · exact (word_lay events_ok h1).up.up
    · rcases List.mem_cons.mp hx with rfl | hx
      · exact fun t m => form_lay o testF_ok (ht t m)
      · rw [List.mem_singleton.mp hx]
        exact fun t m => form_lay o actionF_ok (ha t m)
  · cases h
end Ld

set_option Elab.async false
set_option linter.all false
set_option maxRecDepth 100000
set_option maxHeartbeats 2000000
/-! What rules do, in plain words. -/
namespace Ld
open PySem PySem.Spec PyProof.Rows L2
/-! ### what a test, an action, a deed looks like -/
theorem word_of {ws : List Str} {d : PyData} (h : isWordD ws d = true) : ∃ z, d = .str z ∧ z ∈ ws := by
  cases d <;> first | exact Bool.noConfusion h | skip
  rename_i z
  unfold isWordD at h
  rw [List.any_eq_true] at h
  obtain ⟨y, m, e⟩ := h
  have e : y = z := by simpa using e
  exact ⟨z, rfl, e ▸ m⟩
theorem bool_of {d : PyData} (h : isBoolD d = true) : ∃ b, d = .bool b := by
  cases d <;> first | exact ⟨_, rfl⟩ | exact Bool.noConfusion h
theorem days_of {d : PyData} (h : isDaysD d = true) : ∃ n : Int, d = .int n ∧ 1 ≤ n ∧ n ≤ 30 := by
  cases d <;> first | exact Bool.noConfusion h | skip
  rename_i n
  unfold isDaysD at h
  simp only [Bool.and_eq_true, decide_eq_true_eq] at h
  exact ⟨n, rfl, h.1, h.2⟩
theorem fk_status {dsk : List Str} {d : PyData} : fitsKind dsk "status" d = isWordD statusesS d := if_pos rfl
theorem fk_desk {dsk : List Str} {d : PyData} : fitsKind dsk "desk" d = isWordD dsk d := by
  unfold fitsKind
  rw [if_neg (by decide), if_pos rfl]
theorem fk_wanted {dsk : List Str} {d : PyData} : fitsKind dsk "wanted" d = isBoolD d := by
  unfold fitsKind
  rw [if_neg (by decide), if_neg (by decide), if_pos rfl]
theorem fk_days {dsk : List Str} {d : PyData} : fitsKind dsk "days" d = isDaysD d := by
  unfold fitsKind
  rw [if_neg (by decide), if_neg (by decide), if_neg (by decide)]
theorem zip1 {dsk : List Str} {k : Str} {rest : List PyData} (l : rest.length = 1) (h : ((rest.zip [k]).all fun p => fitsKind dsk p.2 p.1) = true) : ∃ x, rest = [x] ∧ fitsKind dsk k x = true := by
  match rest, l with
  | [x], _ =>
    refine ⟨x, rfl, ?_⟩
    simpa using h
theorem zip2 {dsk : List Str} {k j : Str} {rest : List PyData} (l : rest.length = 2) (h : ((rest.zip [k, j]).all fun p => fitsKind dsk p.2 p.1) = true) : ∃ x y, rest = [x, y] ∧ fitsKind dsk k x = true ∧ fitsKind dsk j y = true := by
  match rest, l with
  | [x, y], _ =>
    have h : (fitsKind dsk k x && (fitsKind dsk j y && true)) = true := h
    simp only [Bool.and_eq_true] at h
    exact ⟨x, y, rfl, h.1, h.2.1⟩
theorem zip0 {rest : List PyData} (l : rest.length = 0) : rest = [] := List.length_eq_zero_iff.mp l
theorem form_of {fs : List (List Str)} {dsk : List Str} {d : PyData} (h : hasForm fs dsk d = true) : ∃ w rest f, d = .tuple (.str w :: rest) ∧ f ∈ fs ∧ f.head? = some w ∧ f.tail.length = rest.length ∧ ((rest.zip f.tail).all fun p => fitsKind dsk p.2 p.1) = true := by
  unfold hasForm at h
  split at h
  · rename_i w rest
    split at h
    · rename_i f hq
      have m := List.mem_of_find?_eq_some hq
      have p := List.find?_some hq
      unfold formIs at p
      simp only [Bool.and_eq_true, decide_eq_true_eq] at p
      exact ⟨w, rest, f, rfl, m, p.1, p.2, h⟩
    · cases h
  · cases h
inductive TestIs (dsk : List Str) : PyData → Prop
  | status (z : Str) (b : Bool) (h : z ∈ statusesS) : TestIs dsk (.tuple [.str "status", .str z, .bool b])
  | desk (z : Str) (b : Bool) (h : z ∈ dsk) : TestIs dsk (.tuple [.str "desk", .str z, .bool b])
  | answered (b : Bool) : TestIs dsk (.tuple [.str "answered", .bool b])
  | marked (b : Bool) : TestIs dsk (.tuple [.str "marked", .bool b])
  | days (n : Int) (h : 1 ≤ n) (g : n ≤ 30) : TestIs dsk (.tuple [.str "days", .int n])
theorem test_of {dsk : List Str} {d : PyData} (h : hasForm testForms dsk d = true) : TestIs dsk d := by
  obtain ⟨w, rest, f, rfl, m, e, l, a⟩ := form_of h
  simp only [testForms, List.mem_cons, List.not_mem_nil, or_false] at m
  rcases m with rfl | rfl | rfl | rfl | rfl
  · cases e
    obtain ⟨x, y, rfl, h1, h2⟩ := zip2 l.symm a
    obtain ⟨z, rfl, hz⟩ := word_of (ws := statusesS) (fk_status ▸ h1)
    obtain ⟨b, rfl⟩ := bool_of (fk_wanted ▸ h2)
    exact .status z b hz
  · cases e
    obtain ⟨x, y, rfl, h1, h2⟩ := zip2 l.symm a
    obtain ⟨z, rfl, hz⟩ := word_of (ws := dsk) (fk_desk ▸ h1)
    obtain ⟨b, rfl⟩ := bool_of (fk_wanted ▸ h2)
    exact .desk z b hz
  · cases e
    obtain ⟨x, rfl, h1⟩ := zip1 l.symm a
    obtain ⟨b, rfl⟩ := bool_of (fk_wanted ▸ h1)
    exact .answered b
  · cases e
    obtain ⟨x, rfl, h1⟩ := zip1 l.symm a
    obtain ⟨b, rfl⟩ := bool_of (fk_wanted ▸ h1)
    exact .marked b
  · cases e
    obtain ⟨x, rfl, h1⟩ := zip1 l.symm a
    obtain ⟨n, rfl, p, q⟩ := days_of (fk_days ▸ h1)
    exact .days n p q
inductive ActIs (dsk : List Str) : PyData → Prop
  | status (z : Str) (h : z ∈ statusesS) : ActIs dsk (.tuple [.str "status", .str z])
  | desk (z : Str) (h : z ∈ dsk) : ActIs dsk (.tuple [.str "desk", .str z])
  | reply : ActIs dsk (.tuple [.str "reply"])
  | mark (b : Bool) : ActIs dsk (.tuple [.str "mark", .bool b])
  | stop : ActIs dsk (.tuple [.str "stop"])
theorem act_of {dsk : List Str} {d : PyData} (h : hasForm actionForms dsk d = true) : ActIs dsk d := by
  obtain ⟨w, rest, f, rfl, m, e, l, a⟩ := form_of h
  simp only [actionForms, List.mem_cons, List.not_mem_nil, or_false] at m
  rcases m with rfl | rfl | rfl | rfl | rfl
  · cases e
    obtain ⟨x, rfl, h1⟩ := zip1 l.symm a
    obtain ⟨z, rfl, hz⟩ := word_of (ws := statusesS) (fk_status ▸ h1)
    exact .status z hz
  · cases e
    obtain ⟨x, rfl, h1⟩ := zip1 l.symm a
    obtain ⟨z, rfl, hz⟩ := word_of (ws := dsk) (fk_desk ▸ h1)
    exact .desk z hz
  · cases e
    cases zip0 l.symm
    exact .reply
  · cases e
    obtain ⟨x, rfl, h1⟩ := zip1 l.symm a
    obtain ⟨b, rfl⟩ := bool_of (fk_wanted ▸ h1)
    exact .mark b
  · cases e
    cases zip0 l.symm
    exact .stop
inductive DeedIs (dsk : List Str) : PyData → Prop
  | letter : DeedIs dsk (.tuple [.str "letter"])
  | answer : DeedIs dsk (.tuple [.str "answer"])
  | day : DeedIs dsk (.tuple [.str "day"])
  | hand (z : Str) (h : z ∈ dsk) : DeedIs dsk (.tuple [.str "hand", .str z])
  | set (z : Str) (h : z ∈ statusesS) : DeedIs dsk (.tuple [.str "set", .str z])
theorem deed_of {dsk : List Str} {d : PyData} (h : hasForm deedForms dsk d = true) : DeedIs dsk d := by
  obtain ⟨w, rest, f, rfl, m, e, l, a⟩ := form_of h
  simp only [deedForms, List.mem_cons, List.not_mem_nil, or_false] at m
  rcases m with rfl | rfl | rfl | rfl | rfl
  · cases e
    cases zip0 l.symm
    exact .letter
  · cases e
    cases zip0 l.symm
    exact .answer
  · cases e
    cases zip0 l.symm
    exact .day
  · cases e
    obtain ⟨x, rfl, h1⟩ := zip1 l.symm a
    obtain ⟨z, rfl, hz⟩ := word_of (ws := dsk) (fk_desk ▸ h1)
    exact .hand z hz
  · cases e
    obtain ⟨x, rfl, h1⟩ := zip1 l.symm a
    obtain ⟨z, rfl, hz⟩ := word_of (ws := statusesS) (fk_status ▸ h1)
    exact .set z hz
/-! ### what they do -/
def holdsT (t : Tk) : PyData → Bool
  | .tuple [.str k, .str z, .bool w] => if k = "status" then decide (decide (t.status = z) = w) else decide (decide (t.desk = z) = w)
  | .tuple [.str k, .bool w] => if k = "answered" then decide (t.answered = w) else decide (t.marked = w)
  | .tuple [.str _, .int n] => decide (n ≤ t.days)
  | _ => false
/-- a ticket while rules are tried -/
structure Ef where
  tk : Tk
  events : List Str
  acted : List Int
  sent : Int
  closed : Bool
  twice : Bool
def setS (e : Ef) (z : Str) : Ef := if e.tk.status = z then e else { e with tk := { e.tk with status := z }, events := e.events ++ [("status" : Str)], closed := e.closed || decide (z = "closed") }
def moveS (e : Ef) (z : Str) : Ef := if e.tk.desk = z then e else { e with tk := { e.tk with desk := z }, events := e.events ++ [("moved" : Str)] }
def replyS (e : Ef) : Ef := { e with tk := { e.tk with answered := true, days := 0 }, events := e.events ++ [("replied" : Str)], sent := e.sent + 1, twice := e.twice || e.tk.answered }
def markS (e : Ef) (b : Bool) : Ef := { e with tk := { e.tk with marked := b } }
def actT (e : Ef) : PyData → Ef
  | .tuple [.str k, .str z] => if k = "status" then setS e z else moveS e z
  | .tuple [.str _, .bool b] => markS e b
  | _ => replyS e
def isStop : PyData → Bool
  | .tuple [.str k] => decide (k = "stop")
  | _ => false
def carryT : Ef → List PyData → Ef × Bool
  | e, [] => (e, false)
  | e, a :: r => if isStop a then (e, true) else carryT (actT e a) r
abbrev Ru := Int × List PyData × List PyData
def tryT : Ef → List Ru → Ef
  | e, [] => e
  | e, (i, ts, as) :: r => if ts.all (holdsT e.tk) then (if (carryT { e with acted := e.acted ++ [i] } as).2 then (carryT { e with acted := e.acted ++ [i] } as).1 else tryT (carryT { e with acted := e.acted ++ [i] } as).1 r) else tryT e r
def efNew (t : Tk) : Ef := ⟨t, [], [], 0, false, false⟩
/-- the rules at an event, by their indexes -/
def rulesAt (ev : Str) : Nat → List PyData → List Ru
  | _, [] => []
  | i, .tuple [.str e, .tuple ts, .tuple as] :: r => if e = ev then ((i : Int), ts, as) :: rulesAt ev (i + 1) r else rulesAt ev (i + 1) r
  | i, _ :: r => rulesAt ev (i + 1) r
def effT (rs : List PyData) (ev : Str) (t : Tk) : Ef := tryT (efNew t) (rulesAt ev 0 rs)
theorem actT_ev (e : Ef) (a : PyData) : (actT e a).events.length ≤ e.events.length + 1 := by
  unfold actT
  split
  · split
    · unfold setS
      split
      · omega
      · simp
    · unfold moveS
      split
      · omega
      · simp
  · unfold markS
    simp
  · unfold replyS
    simp
/-- tuples stay -/
def TupS (K : PySem.W.Frag) (H H' : Hp) : Prop := ∀ b xs, SqT K H b xs → SqT K H' b xs
theorem tups_of {K : PySem.W.Frag} {H H' : Hp} {bad : Addr → Prop} (k : Keep bad H H') (hb : ∀ b, bad b → (∃ xs, H b = some (.lst xs)) ∨ (∃ C dx fs, H b = some (.ins C dx fs)) ∨ H b = none) : TupS K H H' := fun b xs h => by
  have go : ∀ o, H b = some o → (∀ xs, o ≠ .lst xs) → (∀ C dx fs, o ≠ .ins C dx fs) → H' b = some o := fun o e n1 n2 => k b o (fun z => by
    rcases hb b z with ⟨x, h⟩ | ⟨c, d, f, h⟩ | h
    · rw [h] at e; injection e with e; exact n1 _ e.symm
    · rw [h] at e; injection e with e; exact n2 _ _ _ e.symm
    · rw [h] at e; cases e) e
  rcases h with (h | ⟨o, h⟩) | h
  · exact .inl (.inl (go _ h (fun _ => nofun) fun _ _ _ => nofun))
  · exact .inl (.inr ⟨o, go _ h (fun _ => nofun) fun _ _ _ => nofun⟩)
  · exact .inr h
theorem TupS.trans {K : PySem.W.Frag} {H H1 H2 : Hp} (h : TupS K H H1) (g : TupS K H1 H2) : TupS K H H2 := fun b xs z => g b xs (h b xs z)
theorem TupS.of {K : PySem.W.Frag} {H H1 : Hp} (s : Same H H1) : TupS K H H1 := fun b xs z => same_seqT s z
theorem dp_ts {K : PySem.W.Frag} {H H' : Hp} (ts : TupS K H H') : ∀ (n : Nat) {v : V} {d : PyData}, tpD n d → Dp K H v d → Dp K H' v d
  | 0, _, _, t, h => dp_leaf t h
  | n + 1, v, .tuple ds, t, h => by
    obtain ⟨a, xs, rfl, s, dx⟩ := dp_tup h
    exact .tup (ts _ _ s) (dps_map dx fun v d m h => dp_ts ts n (t d m) h)
  | n + 1, v, .list ds, t, h => dp_leaf t h
  | n + 1, v, .none, t, h => dp_leaf t h
  | n + 1, v, .bool _, t, h => dp_leaf t h
  | n + 1, v, .int _, t, h => dp_leaf t h
  | n + 1, v, .str _, t, h => dp_leaf t h
  | n + 1, v, .dict _, t, h => dp_leaf t h
theorem ActIs.tp {dsk : List Str} {d : PyData} (h : ActIs dsk d) : tpD 1 d := by
  cases h <;> (intro e m; simp only [List.mem_cons, List.not_mem_nil, or_false] at m; first | (rcases m with rfl | rfl <;> rfl) | (cases m; rfl))
theorem TestIs.tp {dsk : List Str} {d : PyData} (h : TestIs dsk d) : tpD 1 d := by
  cases h <;> (intro e m; simp only [List.mem_cons, List.not_mem_nil, or_false] at m; first | (rcases m with rfl | rfl | rfl <;> rfl) | (rcases m with rfl | rfl <;> rfl))
/-- a loop over a list, the list come -/
def ForL (K : PySem.W.Frag) (g : TG) (tb : TS) (D : Ends) (σ : L2.St) (x : V) (H : Hp) : Prop := iList K (fun _ H Q => Q x H) σ H fun J H1 => ∃ W : Nat → Nat → L2.St → Hp → Prop, (∃ m, W 0 m σ H1) ∧ ∀ i m σ H, W i m σ H →
  (J.stop i H ∧ D.nx σ H) ∨ (J.go i H ∧ ∃ N : L2.St → Hp → Prop, (∀ σ' H', N σ' H' → ∃ m', m' < m ∧ W (i + 1) m' σ' H') ∧ ∀ x H', J.yld i H x H' → g x σ H' fun σ2 H2 => tb { D with nx := N, ct := N, bk := D.nx } σ2 H2)
theorem for_l {K : PySem.W.Frag} {tl : TE} {g : TG} {tb : TS} {D : Ends} {σ : L2.St} {H : Hp} (h : tl σ H (ForL K g tb D σ)) : tFor (fun σ H R => iList K tl σ H R ∨ iTup K tl σ H R ∨ iStr tl σ H R) g tb D σ H := .inl h
theorem forLx {K : PySem.W.Frag} {g : TG} {tb : TS} {D : Ends} {σ : L2.St} {H : Hp} {a : Addr} {xs : List V} (hs : SqL K H a xs) (Pv : Nat → L2.St → Hp → Prop) (h0 : Pv 0 σ H) (hG : ∀ i σ H, i ≤ xs.length → Pv i σ H → SqL K H a xs)
    (step : ∀ i x σ H, xs[i]? = some x → Pv i σ H → g x σ H fun σ2 H2 => tb { D with nx := Pv (i + 1), ct := Pv (i + 1), bk := D.nx } σ2 H2) (hd : ∀ σ H, Pv xs.length σ H → D.nx σ H) : ForL K g tb D σ (.ref a) H :=
  ⟨a, rfl, ⟨xs, hs⟩, for_it walk_list Pv h0 hG (fun i x σ H H' _ p y => by
    obtain ⟨rfl, e⟩ := y
    exact step i x σ _ e p) hd⟩
section
variable {K : PySem.W.Frag} {H : Hp} {Q : VK} {σ : L2.St} {a p : Addr} {xs : List V} {tl : TE} {g : TG} {tb : TS} {D : Ends} {tt : TT} {te : TE} {vs : List Nat}
/-- a comprehension over a tuple, the tuple come -/
def LcSeqT (K : PySem.W.Frag) (g : TG) (tt : TT) (te : TE) (vs : List Nat) (σ : L2.St) (Q : VK) (x : V) (H : Hp) : Prop := iTup K (fun _ H Q => Q x H) σ H fun J H1 => LcIn J g tt te vs σ Q H1
theorem lc_t (h : tl σ H (LcSeqT K g tt te vs σ Q)) : tLc (fun σ H R => iList K tl σ H R ∨ iTup K tl σ H R ∨ iStr tl σ H R) g tt te vs σ H Q := .inr (.inl h)
/-- a comprehension over a tuple, with a test: what F tells -/
theorem lcTf (hs : ∀ H', Same H H' → SqT K H' a xs) (few : xs.length < sizeLine) (F : Nat → List V) (h0 : F 0 = []) (fl : ∀ i, (F i).length ≤ i)
    (step : ∀ i x H' (N : Bool → V → Hp → Prop), xs[i]? = some x → Same H H' →
      (∀ H4, Same H' H4 → F (i + 1) = F i → N false .non H4) → (∀ y H4, Same H' H4 → F (i + 1) = F i ++ [y] → N true y H4) →
      g x (wipe σ vs) H' fun σ2 H2 => wipe σ2 vs = wipe σ vs ∧ tt σ2 H2 fun b H3 => if b = true then te σ2 H3 fun y H4 => N true y H4 else N false .non H3)
    (hd : ∀ D H', H D = none → Same H H' → H' D = some (.lst (F xs.length)) → Q (.ref D) H') :
    LcSeqT K g tt te vs σ Q (.ref a) H := by
  refine ⟨a, rfl, ⟨xs, hs H (Same.refl H)⟩, ?_⟩
  refine lcAnyIn walk_tup (fun D i H' => Same H H' ∧ H' D = some (.lst (F i))) (fun D nD => ⟨(Same.put (Same.refl H) nD), by rw [h0]; exact upd_same⟩) (fun D i H' _ q => hs H' q.1) ?_ ?_
  · rintro D nD i x H0 H1 hi ⟨k1, e1⟩ y
    obtain ⟨rfl, hx⟩ := y
    have l := fl i
    have := step i x H1 (fun b y H4 => if b = true then (∃ acc, H4 D = some (.lst acc) ∧ acc.length < sizeLine ∧ (Same H (upd H4 D (.lst (acc ++ [y]))) ∧ upd H4 D (.lst (acc ++ [y])) D = some (.lst (F (i + 1))))) else (Same H H4 ∧ H4 D = some (.lst (F (i + 1))))) hx k1 ?_ ?_
    · exact this
    · intro H4 k4 e
      exact ⟨k1.trans k4, by rw [e]; exact k4 _ _ e1⟩
    · intro y H4 k4 e
      refine ⟨F i, k4 _ _ e1, by omega, fun b o q => ?_, by rw [e]; exact upd_same⟩
      rw [upd_ne (ne_of_none q nD)]
      exact k4 _ _ (k1 _ _ q)
  · rintro D nD H' ⟨k, e⟩
    exact hd D H' nD k e
end
theorem rAll_bs {K : PySem.W.Frag} {H : Hp} {D : Addr} {bs : List Bool} {Q : VK} (e : H D = some (.lst (bs.map V.bl))) (q : Q (.bl (bs.all id)) H) : rAll K [.ref D] H Q := ⟨D, bs, rfl, .inl (.inl e), q⟩
/-- a rule with its index stands there -/
def RuAt (K : PySem.W.Frag) (H : Hp) (dsk : List Str) (v : V) (r : Ru) : Prop := ∃ p t1 t2, v = .ref p ∧ H p = some (.tup [.int r.1, t1, t2]) ∧ Dp K H t1 (.tuple r.2.1) ∧ Dp K H t2 (.tuple r.2.2) ∧ (∀ d ∈ r.2.1, TestIs dsk d) ∧ (∀ d ∈ r.2.2, ActIs dsk d) ∧ r.2.1.length ≤ 100 ∧ r.2.2.length ≤ 100
theorem RuAt.keep {K : PySem.W.Frag} {H H' : Hp} {dsk : List Str} {v : V} {r : Ru} (h : RuAt K H dsk v r) (ts : TupS K H H') (t2 : ∀ p xs, H p = some (.tup xs) → H' p = some (.tup xs)) : RuAt K H' dsk v r := by
  obtain ⟨p, t, u, rfl, e, d1, d2, a, b, c, d⟩ := h
  refine ⟨p, t, u, rfl, t2 _ _ e, dp_ts ts 2 (fun x m => (a x m).tp) d1, dp_ts ts 2 (fun x m => (b x m).tp) d2, a, b, c, d⟩
theorem carryT_ev (e : Ef) : ∀ as : List PyData, (carryT e as).1.events.length ≤ e.events.length + as.length := by
  intro as
  induction as generalizing e with
  | nil => simp [carryT]
  | cons a r ih =>
    unfold carryT
    split
    · simp
    · have := ih (actT e a)
      have := actT_ev e a
      simp only [List.length_cons]
      omega
theorem actT_ac (e : Ef) (a : PyData) : (actT e a).acted = e.acted := by
  unfold actT
  split
  · split
    · unfold setS; split <;> rfl
    · unfold moveS; split <;> rfl
  · rfl
  · rfl
theorem carryT_ac (e : Ef) : ∀ as : List PyData, (carryT e as).1.acted = e.acted := by
  intro as
  induction as generalizing e with
  | nil => rfl
  | cons a r ih =>
    unfold carryT
    split
    · rfl
    · rw [ih, actT_ac]
theorem paired_get {α β : Type} {R : α → β → Prop} : ∀ {xs : List α} {ys : List β} {i : Nat} {x : α}, Paired R xs ys → xs[i]? = some x → ∃ y, ys[i]? = some y ∧ R x y
  | _, _, 0, _, .cons r _, e => ⟨_, rfl, by cases e; exact r⟩
  | _, _, i + 1, _, .cons _ t, e => paired_get (i := i) t e
end Ld

set_option Elab.async false
set_option linter.all false
set_option maxRecDepth 100000
set_option maxHeartbeats 4000000
/-! Data, or a dict; a list of such. -/
namespace Ld
open PySem PySem.Spec PyProof.Rows L2
inductive Dq (K : PySem.W.Frag) (H : Hp) : V → PyData → Prop
  | of {v : V} {d : PyData} : Dp K H v d → Dq K H v d
  | dct {a : Addr} {kvs : List (Key × V)} {es : List (PyData × PyData)} : H a = some (.dK kvs) → Dq K H (.ref a) (.dict es)
inductive DqAll (K : PySem.W.Frag) (H : Hp) : List V → List PyData → Prop
  | nil : DqAll K H [] []
  | cons {v : V} {vs : List V} {d : PyData} {ds : List PyData} : Dq K H v d → DqAll K H vs ds → DqAll K H (v :: vs) (d :: ds)
inductive Dt (K : PySem.W.Frag) (H : Hp) : V → PyData → Prop
  | of {v : V} {d : PyData} : Dq K H v d → Dt K H v d
  | lst {a : Addr} {xs : List V} {ds : List PyData} : SqL K H a xs → DqAll K H xs ds → Dt K H (.ref a) (.list ds)
theorem Dt.dp {K : PySem.W.Frag} {H : Hp} {v : V} {d : PyData} (h : Dp K H v d) : Dt K H v d := .of (.of h)
section
variable {K : PySem.W.Frag} {H H' : Hp}
theorem Dq.same {v : V} {d : PyData} (e : Same H H') (h : Dq K H v d) : Dq K H' v d := by
  cases h with
  | of h => exact .of (dpSame e h)
  | dct h => exact .dct (e _ _ h)
theorem DqAll.same {vs : List V} {ds : List PyData} (e : Same H H') (h : DqAll K H vs ds) : DqAll K H' vs ds := by
  induction h with
  | nil => exact .nil
  | cons h _ ih => exact .cons (h.same e) ih
theorem Dt.same {v : V} {d : PyData} (e : Same H H') (h : Dt K H v d) : Dt K H' v d := by
  cases h with
  | of h => exact .of (h.same e)
  | lst h g => exact .lst (e.seq h) (g.same e)
theorem dqs_of : ∀ {vs : List V} {ds : List PyData}, DpAll K H vs ds → DqAll K H vs ds
  | _, _, .nil => .nil
  | _, _, .cons h t => .cons (.of h) (dqs_of t)
theorem DqAll.app {vs ws : List V} {ds es : List PyData} (h : DqAll K H vs ds) (g : DqAll K H ws es) : DqAll K H (vs ++ ws) (ds ++ es) := by
  induction h with
  | nil => exact g
  | cons h _ ih => exact .cons h ih
theorem DqAll.len {vs : List V} {ds : List PyData} (h : DqAll K H vs ds) : vs.length = ds.length := by
  induction h with
  | nil => rfl
  | cons _ _ ih => simp [ih]
theorem DqAll.take {vs : List V} {ds : List PyData} (h : DqAll K H vs ds) : ∀ n : Nat, DqAll K H (vs.take n) (ds.take n) := by
  induction h with
  | nil => intro n; simp; exact .nil
  | cons h _ ih =>
    intro n
    cases n with
    | zero => exact .nil
    | succ n => exact .cons h (ih n)
theorem dqs_get {vs : List V} {ds : List PyData} (h : DqAll K H vs ds) : ∀ {i : Nat} {v : V}, vs[i]? = some v → ∃ d, ds[i]? = some d ∧ Dq K H v d := by
  induction h with
  | nil => intro i v e; cases e
  | cons h _ ih =>
    intro i v e
    cases i with
    | zero => simp at e; subst e; exact ⟨_, rfl, h⟩
    | succ i => simp at e; obtain ⟨d, e1, h1⟩ := ih e; exact ⟨d, by simpa using e1, h1⟩
theorem Dq.tup {v : V} {ds : List PyData} (h : Dq K H v (.tuple ds)) : Dp K H v (.tuple ds) := by
  cases h with | of h => exact h
theorem Dt.list {v : V} {ds : List PyData} (h : Dt K H v (.list ds)) : ∃ a xs, v = .ref a ∧ SqL K H a xs ∧ DqAll K H xs ds := by
  cases h with
  | lst h g => exact ⟨_, _, rfl, h, g⟩
  | of h =>
    cases h with
    | of h =>
      obtain ⟨a, xs, e, h, g⟩ := dp_lst h
      exact ⟨a, xs, e, h, dqs_of g⟩
/-- all are data where all must be tuples -/
theorem dqs_dps {vs : List V} {ds : List PyData} (h : DqAll K H vs ds) : (∀ d ∈ ds, ∃ es, d = .tuple es) → DpAll K H vs ds := by
  induction h with
  | nil => exact fun _ => .nil
  | cons h _ ih =>
    intro al
    obtain ⟨es, rfl⟩ := al _ List.mem_cons_self
    exact .cons h.tup (ih fun e m => al e (List.mem_cons_of_mem _ m))
theorem kitQ : ∀ t ∈ ["NoneType", "bool", "int", "str", "list", "tuple", "dict"], ∀ n ∈ ["bool", "int", "str", "list", "tuple"], kitB t n = some (t == n || (n == "int" && t == "bool")) := by
  decide +kernel
theorem tyq {v : V} {d : PyData} (h : Dq K H v d) : TyX K H v (.type (tyD d)) ∧ tyD d ∈ ["NoneType", "bool", "int", "str", "list", "tuple", "dict"] := by
  cases h with
  | of h =>
    exact ⟨tyx h, List.mem_append_left ["dict"] (dp_kind h)⟩
  | dct h => exact ⟨.base (.dK h), by simp [tyD]⟩
theorem isi_dq {v : V} {d : PyData} {n : String} {Q : VK} (h : Dq K H v d) (q : Q (.bl (isD n d)) H) (hn : n ∈ ["bool", "int", "str", "list", "tuple"] := by decide) : rIsi K [v, .ty n] H Q :=
  ⟨v, .ty n, .type (tyD d), .type n, isD n d, rfl, .ty n, (tyq h).1, kit_ty (kitQ _ (tyq h).2 _ hn), q⟩
theorem isi_dt {v : V} {d : PyData} {n : String} {Q : VK} (h : Dt K H v d) (q : Q (.bl (isD n d)) H) (hn : n ∈ ["bool", "int", "str", "list", "tuple"] := by decide) : rIsi K [v, .ty n] H Q := by
  cases h with
  | of h => exact isi_dq h q hn
  | @lst a xs ds h _ => exact ⟨_, .ty n, .type "list", .type n, isD n (.list ds), rfl, .ty n, tyxL h, kit_ty (kitQ _ (by simp) _ hn), q⟩
end
/-- has_form and is_deed of any such value -/
def spFormX (K : PySem.W.Frag) : Sp := fun vs H Q _ => ∃ v d vf fs a dsk, vs = [v, vf, .ref a] ∧ Dq K H v d ∧ (∀ ds, d = .tuple ds → ds.length ≤ 1000) ∧ Dp K H vf (formsD fs) ∧ (∀ f ∈ fs, f ≠ [] ∧ f.length ≤ 1000) ∧ SqT K H a (List.map V.str dsk) ∧ ∀ H', Same H H' → Q (.bl (hasForm fs dsk d)) H'
def spDeskX (K : PySem.W.Frag) (ok : PyData → Prop) (g : List Str → PyData → Bool) : Sp := fun vs H Q _ => ∃ v d a dsk, vs = [v, .ref a] ∧ Dq K H v d ∧ ok d ∧ SqT K H a (List.map V.str dsk) ∧ ∀ H', Same H H' → Q (.bl (g dsk d)) H'
theorem disp_one {σ : L2.St} {H : Hp} {Q : VK} {k : Str} {v : V} (q : ∀ p H', Same H H' → H p = none → (∃ kvs, H' p = some (.dK kvs)) → Q (.ref p) H') : tDisp [(tC (.str k), tC v)] σ H Q := fun p n =>
  ⟨upd_same, [(.inr k, v)], rfl, by simp, q p _ (fun b o e => by rw [upd_ne (ne_of_none e n), upd_ne (ne_of_none e n)]; exact e) n ⟨_, upd_same⟩⟩
end Ld

set_option Elab.async false
set_option linter.all false
set_option maxRecDepth 100000
set_option maxHeartbeats 4000000
/-! Deeds with any desk. -/
namespace Ld
open PySem PySem.Spec PyProof.Rows L2
def fitsKindN (k : Str) (d : PyData) : Bool :=
  if k = "status" then isWordD statusesS d else if k = "desk" then isNameD d else if k = "wanted" then isBoolD d else isDaysD d
def hasFormN (fs : List (List Str)) : PyData → Bool
  | .tuple (.str w :: rest) => match fs.find? (formIs w rest.length) with
    | some f => (rest.zip f.tail).all fun p => fitsKindN p.2 p.1
    | none => false
  | _ => false
def isDeedN (d : PyData) : Bool := hasFormN deedForms d
def okFormN (d : PyData) : Prop := ∀ ds, d = .tuple ds → ds.length ≤ 500000 ∧ ∀ e ∈ ds, fitsD e
def spFitsN (K : PySem.W.Frag) : Sp := fun vs H Q _ => ∃ v d k, vs = [v, .str k, .non] ∧ Dp K H v d ∧ fitsD d ∧ ∀ H', Same H H' → Q (.bl (fitsKindN k d)) H'
def spFormN (K : PySem.W.Frag) : Sp := fun vs H Q _ => ∃ v d vf fs, vs = [v, vf, .non] ∧ Dq K H v d ∧ okFormN d ∧ Dp K H vf (formsD fs) ∧ (∀ f ∈ fs, f ≠ [] ∧ f.length ≤ 1000) ∧ ∀ H', Same H H' → Q (.bl (hasFormN fs d)) H'
def spDeedN (K : PySem.W.Frag) : Sp := fun vs H Q _ => ∃ v d, vs = [v, .non] ∧ Dq K H v d ∧ okFormN d ∧ ∀ H', Same H H' → Q (.bl (isDeedN d)) H'
theorem fits_atN (rest : List PyData) (ks : List Str) (e : ks.length = rest.length) : (List.range rest.length).all (fun i => ((rest.zip ks)[i]?).any fun p => fitsKindN p.2 p.1) = (rest.zip ks).all fun p => fitsKindN p.2 p.1 := by
  have h := all_at (rest.zip ks) fun p => fitsKindN p.2 p.1
  rw [List.length_zip, e, Nat.min_self] at h
  exact h
def firstWrongN : Nat → List PyData → Option Nat
  | _, [] => none
  | i, d :: r => if isDeedN d = true then firstWrongN (i + 1) r else some i
def wrongN : PyData → Option Nat
  | .list ds => firstWrongN 0 ds
  | _ => some 0
def ovN : Option Nat → V
  | none => .non
  | some i => .int (i : Nat)
def okDeedsN (d : PyData) : Prop := ∀ ds, d = .list ds → ds.length ≤ 500000 ∧ ∀ e ∈ ds, okFormN e
def spWrongN (K : PySem.W.Frag) : Sp := fun vs H Q _ => ∃ v d, vs = [v, .non] ∧ Dt K H v d ∧ okDeedsN d ∧ ∀ H', Same H H' → Q (ovN (wrongN d)) H'
end Ld

set_option Elab.async false
set_option linter.all false
set_option maxRecDepth 100000
set_option maxHeartbeats 2000000
/-! A deed and its events, in plain words; what stays when lists and objects change. -/
namespace Ld
open PySem PySem.Spec PyProof.Rows L2
/-! ### what stays -/
/-- no tuple stands there -/
def Soft (H : Hp) (b : Addr) : Prop := H b = none ∨ (∃ xs, H b = some (.lst xs)) ∨ (∃ C dx fs, H b = some (.ins C dx fs)) ∨ (∃ p, H b = some (.ext p)) ∨ ∃ kvs, H b = some (.dK kvs)
structure Tps (K : PySem.W.Frag) (H H' : Hp) : Prop where
  t : TupS K H H'
  p : ∀ a xs, H a = some (.tup xs) → H' a = some (.tup xs)
theorem tps_of {K : PySem.W.Frag} {H H' : Hp} {bad : Addr → Prop} (k : Keep bad H H') (hb : ∀ b, bad b → Soft H b) : Tps K H H' := by
  have go : ∀ b o, H b = some o → (∀ xs, o ≠ .lst xs) → (∀ C dx fs, o ≠ .ins C dx fs) → (∀ p, o ≠ .ext p) → (∀ kvs, o ≠ .dK kvs) → H' b = some o := fun b o e n1 n2 n3 n4 => k b o (fun z => by
    rcases hb b z with h | ⟨x, h⟩ | ⟨c, d, f, h⟩ | ⟨p, h⟩ | ⟨kvs, h⟩
    · rw [h] at e; cases e
    · rw [h] at e; injection e with e; exact n1 _ e.symm
    · rw [h] at e; injection e with e; exact n2 _ _ _ e.symm
    · rw [h] at e; injection e with e; exact n3 _ e.symm
    · rw [h] at e; injection e with e; exact n4 _ e.symm) e
  refine ⟨fun b xs h => ?_, fun a xs h => go a _ h (fun _ => nofun) (fun _ _ _ => nofun) (fun _ => nofun) fun _ => nofun⟩
  rcases h with (h | ⟨o, h⟩) | h
  · exact .inl (.inl (go _ _ h (fun _ => nofun) (fun _ _ _ => nofun) (fun _ => nofun) fun _ => nofun))
  · exact .inl (.inr ⟨o, go _ _ h (fun _ => nofun) (fun _ _ _ => nofun) (fun _ => nofun) fun _ => nofun⟩)
  · exact .inr h
theorem Tps.of {K : PySem.W.Frag} {H H' : Hp} (s : Same H H') : Tps K H H' := ⟨TupS.of s, fun _ _ e => s _ _ e⟩
theorem Tps.trans {K : PySem.W.Frag} {H H1 H2 : Hp} (h : Tps K H H1) (g : Tps K H1 H2) : Tps K H H2 := ⟨h.t.trans g.t, fun a xs e => g.p a xs (h.p a xs e)⟩
theorem TkAt.keep {K : PySem.W.Frag} {H H' : Hp} {v : V} {t : Tk} (h : TkAt H v t) (k : Tps K H H') : TkAt H' v t := by
  obtain ⟨a, rfl, e⟩ := h
  exact ⟨a, rfl, k.p _ _ e⟩
/-! ### a deed and its events -/
def evV : Option Str → V
  | none => .non
  | some z => .str z
structure Tn where
  event : Option Str
  behind : Tk
  acted : List Int
  sent : Int
  endless : Bool
  closed : Bool
  twice : Bool
  kinds : List Str
def tnNew (e : Option Str) (t : Tk) : Tn := ⟨e, t, [], 0, false, false, false, []⟩
def takeT (t : Tn) (e : Ef) : Tn := { t with behind := e.tk, acted := t.acted ++ e.acted, sent := t.sent + e.sent, closed := t.closed || e.closed, twice := t.twice || e.twice }
def oneIf (b : Bool) (z : Str) : List Str := if b = true then [z] else []
def kindsT (t : Tn) : List Str :=
  oneIf t.endless "endless" ++ oneIf (t.closed && (decide (t.behind.status = "closed") && !t.behind.answered)) "unanswered" ++ oneIf t.twice "twice" ++ oneIf (decide (t.event = some ("letter" : Str)) && decide (t.acted.length = 0)) "untouched"
/-- the events that are left, handled one by one -/
def queueT (ef : Str → Tk → Ef) : Nat → List Str → Tn → List Str × Tn
  | 0, q, t => (q, t)
  | _ + 1, [], t => ([], t)
  | k + 1, e :: q, t => queueT ef k (q ++ (ef e t.behind).events) (takeT t (ef e t.behind))
def firstQ : Option Str → List Str
  | none => []
  | some z => [z]
def endT (r : List Str × Tn) : Tn := { r.2 with endless := !r.1.isEmpty, kinds := kindsT { r.2 with endless := !r.1.isEmpty } }
def runT (ef : Str → Tk → Ef) (e : Option Str) (t : Tk) : Tn := endT (queueT ef 50 (firstQ e) (tnNew e t))
/-- what the deed itself does -/
def begunT (dsk : List Str) (tk : Option Tk) (d : PyData) : Option Str × Tk :=
  let t := tk.getD ⟨"new", dsk.headD ("" : Str), false, 0, false⟩
  match d with
  | .tuple [.str k] => if k = "letter" then (some ("letter" : Str), { t with answered := false, days := 0 }) else if k = "answer" then (some ("answer" : Str), { t with answered := true, days := 0 }) else (some ("day" : Str), { t with days := t.days + 1 })
  | .tuple [.str k, .str z] => if k = "hand" then (if t.desk = z then none else some ("moved" : Str), { t with desk := z }) else (if t.status = z then none else some ("status" : Str), { t with status := z })
  | _ => (none, t)
def turnT (ef : Str → Tk → Ef) (dsk : List Str) (tk : Option Tk) (d : PyData) : Tn := runT ef (begunT dsk tk d).1 (begunT dsk tk d).2
def turnsT (ef : Str → Tk → Ef) (dsk : List Str) : Option Tk → List PyData → List Tn
  | _, [] => []
  | tk, d :: r => turnT ef dsk tk d :: turnsT ef dsk (some (turnT ef dsk tk d).behind) r
def reportD (t : Tn) : PyData := .tuple [.list (t.acted.map PyData.int), .int t.sent, .tuple [.str t.behind.status, .str t.behind.desk, .bool t.behind.answered, .int t.behind.days, .bool t.behind.marked], .bool t.endless]
/-- a rule, taken apart -/
theorem rule_of {dsk : List Str} {d : PyData} (h : isRuleD dsk d = true) : ∃ ev ts as, d = .tuple [.str ev, .tuple ts, .tuple as] ∧ ev ∈ eventsS ∧ ts.length ≤ 4 ∧ as.length ≤ 4 ∧ (∀ t ∈ ts, TestIs dsk t) ∧ ∀ a ∈ as, ActIs dsk a := by
  unfold isRuleD at h
  split at h
  · rename_i ev ts as
    simp only [Bool.and_eq_true, decide_eq_true_eq, List.all_eq_true] at h
    obtain ⟨⟨⟨⟨⟨h1, h2⟩, ht⟩, h3⟩, h4⟩, ha⟩ := h
    obtain ⟨z, rfl, hz⟩ := word_of h1
    exact ⟨z, ts, as, rfl, hz, h2, h4, fun t m => test_of (ht t m), fun a m => act_of (ha a m)⟩
  · cases h
theorem rules_tpR {dsk : List Str} {rs : List PyData} (h : ∀ e ∈ rs, isRuleD dsk e = true) : tpD 4 (.tuple rs) := fun e m => by
  obtain ⟨ev, ts, as, rfl, _, _, _, ht, ha⟩ := rule_of (h e m)
  intro x hx
  rcases List.mem_cons.mp hx with rfl | hx
  · rfl
  · rcases List.mem_cons.mp hx with rfl | hx
    · exact fun t m => (ht t m).tp
    · rw [List.mem_singleton.mp hx]
      exact fun t m => (ha t m).tp
theorem rulesAt_len (ev : Str) : ∀ (rs : List PyData) (i : Nat), (rulesAt ev i rs).length ≤ rs.length
  | [], _ => Nat.zero_le _
  | r :: rs, i => by
    have := rulesAt_len ev rs (i + 1)
    unfold rulesAt
    split
    · rename_i h; cases h
    · rename_i h
      injection h with h1 h2
      subst h2
      split
      · simp only [List.length_cons]; omega
      · simp only [List.length_cons]; omega
    · rename_i h
      injection h with h1 h2
      subst h2
      simp only [List.length_cons]; omega
theorem tryT_ac (e : Ef) : ∀ rs : List Ru, (tryT e rs).acted.length ≤ e.acted.length + rs.length := by
  intro rs
  induction rs generalizing e with
  | nil => simp [tryT]
  | cons r rs ih =>
    obtain ⟨i, ts, as⟩ := r
    unfold tryT
    split
    · split
      · rw [carryT_ac]
        simp only [List.length_append, List.length_cons, List.length_nil]
        omega
      · have := ih (carryT { e with acted := e.acted ++ [i] } as).1
        rw [carryT_ac] at this
        simp only [List.length_append, List.length_cons, List.length_nil] at this ⊢
        omega
    · have := ih e
      simp only [List.length_cons]
      omega
theorem tryT_evl (e : Ef) : ∀ rs : List Ru, (∀ r ∈ rs, r.2.2.length ≤ 4) → (tryT e rs).events.length ≤ e.events.length + 4 * rs.length := by
  intro rs
  induction rs generalizing e with
  | nil => simp [tryT]
  | cons r rs ih =>
    intro h
    obtain ⟨i, ts, as⟩ := r
    have h1 : as.length ≤ 4 := h _ List.mem_cons_self
    have c := carryT_ev { e with acted := e.acted ++ [i] } as
    unfold tryT
    split
    · split
      · simp only [List.length_cons] at c ⊢
        omega
      · have := ih (carryT { e with acted := e.acted ++ [i] } as).1 fun r m => h r (List.mem_cons_of_mem _ m)
        simp only [List.length_cons] at c ⊢
        omega
    · have := ih e fun r m => h r (List.mem_cons_of_mem _ m)
      simp only [List.length_cons]
      omega
theorem actT_evs (e : Ef) (a : PyData) (h : ∀ z ∈ e.events, z ∈ eventsS) : ∀ z ∈ (actT e a).events, z ∈ eventsS := by
  have add : ∀ y ∈ eventsS, ∀ z ∈ e.events ++ [y], z ∈ eventsS := fun y hy z m => by
    rcases List.mem_append.mp m with m | m
    · exact h z m
    · rw [List.mem_singleton.mp m]; exact hy
  unfold actT
  split
  · split
    · unfold setS
      split
      · exact h
      · exact add _ (by decide +kernel)
    · unfold moveS
      split
      · exact h
      · exact add _ (by decide +kernel)
  · exact h
  · exact add _ (by decide +kernel)
theorem carryT_evs (e : Ef) : ∀ as : List PyData, (∀ z ∈ e.events, z ∈ eventsS) → ∀ z ∈ (carryT e as).1.events, z ∈ eventsS := by
  intro as
  induction as generalizing e with
  | nil => exact fun h => h
  | cons a r ih =>
    intro h
    unfold carryT
    split
    · exact h
    · exact ih _ (actT_evs e a h)
theorem tryT_evs (e : Ef) : ∀ rs : List Ru, (∀ z ∈ e.events, z ∈ eventsS) → ∀ z ∈ (tryT e rs).events, z ∈ eventsS := by
  intro rs
  induction rs generalizing e with
  | nil => exact fun h => h
  | cons r rs ih =>
    intro h
    obtain ⟨i, ts, as⟩ := r
    have c : ∀ z ∈ (carryT { e with acted := e.acted ++ [i] } as).1.events, z ∈ eventsS := carryT_evs _ as h
    unfold tryT
    split
    · split
      · exact c
      · exact ih _ c
    · exact ih _ h
theorem rulesAt_short {dsk : List Str} (ev : Str) : ∀ (rs : List PyData) (i : Nat), (∀ e ∈ rs, isRuleD dsk e = true) → ∀ r ∈ rulesAt ev i rs, r.2.2.length ≤ 4
  | [], _, _ => fun _ m => nomatch m
  | d :: rs, i, h => by
    have ih := rulesAt_short ev rs (i + 1) fun e m => h e (List.mem_cons_of_mem _ m)
    obtain ⟨z, ts, as, rfl, _, _, l, _⟩ := rule_of (h _ List.mem_cons_self)
    intro r m
    have e : rulesAt ev i (.tuple [.str z, .tuple ts, .tuple as] :: rs) = if z = ev then ((i : Int), ts, as) :: rulesAt ev (i + 1) rs else rulesAt ev (i + 1) rs := rfl
    rw [e] at m
    split at m
    · rcases List.mem_cons.mp m with rfl | m
      · exact l
      · exact ih r m
    · exact ih r m
theorem effT_ok {dsk : List Str} {rs : List PyData} (ev : Str) (t : Tk) (h : ∀ e ∈ rs, isRuleD dsk e = true) (l : rs.length ≤ 8) : (effT rs ev t).acted.length ≤ 8 ∧ (effT rs ev t).events.length ≤ 32 ∧ ∀ z ∈ (effT rs ev t).events, z ∈ eventsS := by
  have a := rulesAt_len ev rs 0
  have b := tryT_ac (efNew t) (rulesAt ev 0 rs)
  have c := tryT_evl (efNew t) (rulesAt ev 0 rs) (rulesAt_short ev rs 0 h)
  simp only [efNew, List.length_nil] at b c
  refine ⟨by unfold effT; simp only [efNew]; omega, by unfold effT; simp only [efNew]; omega, tryT_evs _ _ fun z m => nomatch m⟩
theorem queueT_nil (ef : Str → Tk → Ef) (k : Nat) (t : Tn) : queueT ef k [] t = ([], t) := by cases k <;> rfl
theorem rulesAt_cons (ev z : Str) (ts as rs : List PyData) (i : Nat) : rulesAt ev i (.tuple [.str z, .tuple ts, .tuple as] :: rs) = (if z = ev then [((i : Int), ts, as)] else []) ++ rulesAt ev (i + 1) rs := by
  show (if z = ev then ((i : Int), ts, as) :: rulesAt ev (i + 1) rs else rulesAt ev (i + 1) rs) = _
  split <;> rfl
theorem rulesAt_snoc {dsk : List Str} (ev : Str) (d : PyData) : ∀ (rs : List PyData) (i : Nat), (∀ e ∈ rs, isRuleD dsk e = true) → rulesAt ev i (rs ++ [d]) = rulesAt ev i rs ++ rulesAt ev (i + rs.length) [d]
  | [], i, _ => by simp [rulesAt]
  | r :: rs, i, h => by
    have ih := rulesAt_snoc ev d rs (i + 1) fun e m => h e (List.mem_cons_of_mem _ m)
    obtain ⟨z, ts, as, rfl, _⟩ := rule_of (h _ List.mem_cons_self)
    have e : i + 1 + rs.length = i + (PyData.tuple [.str z, .tuple ts, .tuple as] :: rs).length := by simp only [List.length_cons]; omega
    rw [e] at ih
    rw [List.cons_append, rulesAt_cons, rulesAt_cons, ih, List.append_assoc]
theorem rulesAt_one (ev z : Str) (ts as : List PyData) (i : Nat) : rulesAt ev i [.tuple [.str z, .tuple ts, .tuple as]] = if z = ev then [((i : Int), ts, as)] else [] := by
  rw [rulesAt_cons]
  show _ ++ [] = _
  rw [List.append_nil]
/-- a loop over enumerate of a tuple, the tuple come -/
def ForEn (K : PySem.W.Frag) (g : TG) (tb : TS) (D : Ends) (σ : L2.St) (vs : List V) (H : Hp) : Prop := iEnumT K (fun _ H Q => Q vs H) σ H fun J H1 => ∃ W : Nat → Nat → L2.St → Hp → Prop, (∃ m, W 0 m σ H1) ∧ ∀ i m σ H, W i m σ H →
  (J.stop i H ∧ D.nx σ H) ∨ (J.go i H ∧ ∃ N : L2.St → Hp → Prop, (∀ σ' H', N σ' H' → ∃ m', m' < m ∧ W (i + 1) m' σ' H') ∧ ∀ x H', J.yld i H x H' → g x σ H' fun σ2 H2 => tb { D with nx := N, ct := N, bk := D.nx } σ2 H2)
theorem for_en {K : PySem.W.Frag} {ta : TA} {g : TG} {tb : TS} {D : Ends} {σ : L2.St} {H : Hp} (h : ta σ H (ForEn K g tb D σ)) : tFor (fun σ H R => iEnum K ta σ H R ∨ iEnumT K ta σ H R) g tb D σ H := .inr h
theorem forEnx {K : PySem.W.Frag} {g : TG} {tb : TS} {D : Ends} {σ : L2.St} {H : Hp} {a : Addr} {xs : List V} (hs : SqT K H a xs) (Pv : Nat → L2.St → Hp → Prop) (h0 : Pv 0 σ H) (hG : ∀ i σ H, i ≤ xs.length → Pv i σ H → SqT K H a xs)
    (step : ∀ i x σ H T, xs[i]? = some x → Pv i σ H → H T = none → g (.ref T) σ (upd H T (.tup [.int (i : Nat), x])) fun σ2 H2 => tb { D with nx := Pv (i + 1), ct := Pv (i + 1), bk := D.nx } σ2 H2) (hd : ∀ σ H, Pv xs.length σ H → D.nx σ H) : ForEn K g tb D σ [.ref a] H :=
  ⟨a, xs, rfl, hs, for_it walkEt Pv h0 hG (fun i x σ H H' _ p y => by
    obtain ⟨T, u, v, rfl, n, rfl, e1, e2⟩ := y
    cases e1
    exact step i v σ H T e2 p n) hd⟩
/-- what stands while what stood in H, lists and objects, changes -/
def Fs (K : PySem.W.Frag) (H H1 : Hp) (v : V) (d : PyData) : Prop := ∀ (q : Addr → Prop) (H' : Hp), (∀ b, q b → H b ≠ none ∧ Soft H1 b) → Keep q H1 H' → Dp K H' v d
theorem Fs.dp {K : PySem.W.Frag} {H H1 : Hp} {v : V} {d : PyData} (h : Fs K H H1 v d) : Dp K H1 v d := h (fun _ => False) H1 (fun _ z => z.elim) fun _ _ _ e => e
theorem Fs.later {K : PySem.W.Frag} {H H1 H2 : Hp} {v : V} {d : PyData} {q0 : Addr → Prop} (h : Fs K H H1 v d) (k : Keep q0 H1 H2) (hq : ∀ b, q0 b → H b ≠ none ∧ Soft H1 b) : Fs K H H2 v d := fun q H' z k2 => by
  refine h (fun b => q0 b ∨ (q b ∧ Soft H1 b)) H' (fun b y => ?_) fun b o nb e => ?_
  · rcases y with y | ⟨y, s⟩
    · exact hq b y
    · exact ⟨(z b y).1, s⟩
  · have n0 : ¬ q0 b := fun y => nb (.inl y)
    have e2 := k b o n0 e
    refine k2 b o (fun y => nb (.inr ⟨y, ?_⟩)) e2
    have s2 := (z b y).2
    unfold Soft at s2 ⊢
    rw [e2] at s2
    rw [e]
    exact s2
theorem Fs.weak {K : PySem.W.Frag} {H0 H H1 : Hp} {v : V} {d : PyData} (h : Fs K H H1 v d) (g : ∀ b, H0 b ≠ none → H b ≠ none) : Fs K H0 H1 v d := fun q H' z k => h q H' (fun b y => ⟨g b (z b y).1, (z b y).2⟩) k
theorem Fs.same {K : PySem.W.Frag} {H H1 H2 : Hp} {v : V} {d : PyData} (h : Fs K H H1 v d) (s : Same H1 H2) : Fs K H H2 v d := h.later (q0 := fun _ => False) (fun b o _ e => s b o e) fun _ z => z.elim
def FsAll (K : PySem.W.Frag) (H H1 : Hp) (vs : List V) (ds : List PyData) : Prop := Paired (fun v d => Fs K H H1 v d) vs ds
theorem FsAll.dps {K : PySem.W.Frag} {H H1 : Hp} {vs : List V} {ds : List PyData} (h : FsAll K H H1 vs ds) (q : Addr → Prop) (H' : Hp) (z : ∀ b, q b → H b ≠ none ∧ Soft H1 b) (k : Keep q H1 H') : DpAll K H' vs ds := by
  induction h with
  | nil => exact .nil
  | cons h _ ih => exact .cons (h q H' z k) ih
theorem soft_no {H : Hp} {b : Addr} {xs : List V} (e : H b = some (.tup xs)) : ¬ Soft H b := fun z => by
  rcases z with h | ⟨_, h⟩ | ⟨_, _, _, h⟩ | ⟨_, h⟩ | ⟨_, h⟩ <;> (rw [e] at h; cases h)
theorem fs_tup {K : PySem.W.Frag} {H H1 : Hp} {p : Addr} {vs : List V} {ds : List PyData} (e : H1 p = some (.tup vs)) (h : FsAll K H H1 vs ds) : Fs K H H1 (.ref p) (.tuple ds) := fun q H' z k =>
  .tup (.inl (.inl (k _ _ (fun y => soft_no e (z p y).2) e))) (h.dps q H' z k)
theorem fs_lst {K : PySem.W.Frag} {H H1 : Hp} {p : Addr} {vs : List V} {ds : List PyData} (n : H p = none) (e : H1 p = some (.lst vs)) (h : FsAll K H H1 vs ds) : Fs K H H1 (.ref p) (.list ds) := fun q H' z k =>
  .lst (.inl (.inl (k _ _ (fun y => (z p y).1 n) e))) (h.dps q H' z k)
theorem fs_str {K : PySem.W.Frag} {H H1 : Hp} (z : Str) : Fs K H H1 (.str z) (.str z) := fun _ _ _ _ => .str _
theorem fs_int {K : PySem.W.Frag} {H H1 : Hp} (z : Int) : Fs K H H1 (.int z) (.int z) := fun _ _ _ _ => .int _
theorem fs_bl {K : PySem.W.Frag} {H H1 : Hp} (z : Bool) : Fs K H H1 (.bl z) (.bool z) := fun _ _ _ _ => .bl _
theorem fs_ints {K : PySem.W.Frag} {H H1 : Hp} : ∀ xs : List Int, FsAll K H H1 (xs.map V.int) (xs.map PyData.int)
  | [] => .nil
  | _ :: r => .cons (fs_int _) (fs_ints r)
/-- a report that was laid anew: its list is a new one -/
def RepN (H H1 : Hp) (v : V) (t : Tn) : Prop := ∃ p l b, v = .ref p ∧ H1 p = some (.tup [.ref l, .int t.sent, .ref b, .bl t.endless]) ∧ H l = none ∧ H1 l = some (.lst (t.acted.map V.int)) ∧ H1 b = some (.tup [.str t.behind.status, .str t.behind.desk, .bl t.behind.answered, .int t.behind.days, .bl t.behind.marked])
theorem RepN.weak {H0 H H1 : Hp} {v : V} {t : Tn} (h : RepN H H1 v t) (g : ∀ b, H0 b ≠ none → H b ≠ none) : RepN H0 H1 v t := by
  obtain ⟨p, l, b, rfl, e1, n, e2, e3⟩ := h
  refine ⟨p, l, b, rfl, e1, ?_, e2, e3⟩
  cases e : H0 l with
  | none => rfl
  | some o => exact absurd n (g l (by rw [e]; exact nofun))
theorem RepN.later {H H1 H2 : Hp} {v : V} {t : Tn} {q0 : Addr → Prop} (h : RepN H H1 v t) (k : Keep q0 H1 H2) (hq : ∀ b, q0 b → H b ≠ none ∧ Soft H1 b) : RepN H H2 v t := by
  obtain ⟨p, l, b, rfl, e1, n, e2, e3⟩ := h
  exact ⟨p, l, b, rfl, k _ _ (fun y => soft_no e1 (hq _ y).2) e1, n, k _ _ (fun y => (hq _ y).1 n) e2, k _ _ (fun y => soft_no e3 (hq _ y).2) e3⟩
theorem RepN.same {H H1 H2 : Hp} {v : V} {t : Tn} (h : RepN H H1 v t) (s : Same H1 H2) : RepN H H2 v t := h.later (q0 := fun _ => False) (fun b o _ e => s b o e) fun _ z => z.elim
theorem RepN.fs {K : PySem.W.Frag} {H H1 : Hp} {v : V} {t : Tn} (h : RepN H H1 v t) : Fs K H H1 v (reportD t) := by
  obtain ⟨p, l, b, rfl, e1, n, e2, e3⟩ := h
  exact fs_tup e1 (.cons (fs_lst n e2 (fs_ints _)) (.cons (fs_int _) (.cons (fs_tup e3 (.cons (fs_str _) (.cons (fs_str _) (.cons (fs_bl _) (.cons (fs_int _) (.cons (fs_bl _) .nil)))))) (.cons (fs_bl _) .nil))))
/-- what goes wrong in the turns, from an index on -/
def faultsOf : Nat → List Tn → List (Str × Nat)
  | _, [] => []
  | i, t :: r => t.kinds.map (fun k => (k, i)) ++ faultsOf (i + 1) r
def faultD (p : Str × Nat) : PyData := .tuple [.str p.1, .int (p.2 : Nat)]
/-- a loop over enumerate of a list, the list come -/
def ForEl (K : PySem.W.Frag) (g : TG) (tb : TS) (D : Ends) (σ : L2.St) (vs : List V) (H : Hp) : Prop := iEnum K (fun _ H Q => Q vs H) σ H fun J H1 => ∃ W : Nat → Nat → L2.St → Hp → Prop, (∃ m, W 0 m σ H1) ∧ ∀ i m σ H, W i m σ H →
  (J.stop i H ∧ D.nx σ H) ∨ (J.go i H ∧ ∃ N : L2.St → Hp → Prop, (∀ σ' H', N σ' H' → ∃ m', m' < m ∧ W (i + 1) m' σ' H') ∧ ∀ x H', J.yld i H x H' → g x σ H' fun σ2 H2 => tb { D with nx := N, ct := N, bk := D.nx } σ2 H2)
theorem for_el {K : PySem.W.Frag} {ta : TA} {g : TG} {tb : TS} {D : Ends} {σ : L2.St} {H : Hp} (h : ta σ H (ForEl K g tb D σ)) : tFor (fun σ H R => iEnum K ta σ H R ∨ iEnumT K ta σ H R) g tb D σ H := .inl h
theorem forElx {K : PySem.W.Frag} {g : TG} {tb : TS} {D : Ends} {σ : L2.St} {H : Hp} {a : Addr} {xs : List V} (hs : SqL K H a xs) (Pv : Nat → L2.St → Hp → Prop) (h0 : Pv 0 σ H) (hG : ∀ i σ H, i ≤ xs.length → Pv i σ H → SqL K H a xs)
    (step : ∀ i x σ H T, xs[i]? = some x → Pv i σ H → H T = none → g (.ref T) σ (upd H T (.tup [.int (i : Nat), x])) fun σ2 H2 => tb { D with nx := Pv (i + 1), ct := Pv (i + 1), bk := D.nx } σ2 H2) (hd : ∀ σ H, Pv xs.length σ H → D.nx σ H) : ForEl K g tb D σ [.ref a] H :=
  ⟨a, xs, rfl, hs, for_it walk_enum Pv h0 hG (fun i x σ H H' _ p y => by
    obtain ⟨T, u, v, rfl, n, rfl, e1, e2⟩ := y
    cases e1
    exact step i v σ H T e2 p n) hd⟩
end Ld

set_option Elab.async false
set_option linter.all false
set_option maxRecDepth 100000
set_option maxHeartbeats 2000000
/-! Histories and their beginnings. -/
namespace Ld
open PySem PySem.Spec PyProof.Rows L2
theorem turnsT_take (ef : Str → Tk → Ef) (dsk : List Str) : ∀ (ds : List PyData) (tk : Option Tk) (n : Nat), turnsT ef dsk tk (ds.take n) = (turnsT ef dsk tk ds).take n
  | [], _, n => by simp [turnsT]
  | d :: r, tk, 0 => rfl
  | d :: r, tk, n + 1 => by
    show turnT ef dsk tk d :: turnsT ef dsk _ (r.take n) = _
    rw [turnsT_take ef dsk r]
    rfl
theorem turnsT_len (ef : Str → Tk → Ef) (dsk : List Str) : ∀ (ds : List PyData) (tk : Option Tk), (turnsT ef dsk tk ds).length = ds.length
  | [], _ => rfl
  | d :: r, tk => by
    show (turnsT ef dsk _ r).length + 1 = r.length + 1
    rw [turnsT_len ef dsk r]
theorem faultsOf_ge : ∀ (ts : List Tn) (i : Nat), ∀ p ∈ faultsOf i ts, i ≤ p.2
  | [], _ => fun _ m => nomatch m
  | t :: r, i => fun p m => by
    rcases List.mem_append.mp m with m | m
    · obtain ⟨k, _, rfl⟩ := List.mem_map.mp m
      exact Nat.le_refl _
    · have := faultsOf_ge r (i + 1) p m
      omega
theorem faultsOf_take : ∀ (ts : List Tn) (i n : Nat), faultsOf i (ts.take n) = (faultsOf i ts).filter fun p => decide (p.2 < i + n)
  | [], i, n => by simp [faultsOf]
  | t :: r, i, 0 => by
    rw [List.take_zero]
    symm
    rw [show faultsOf i [] = [] from rfl, List.filter_eq_nil_iff]
    intro p m
    have := faultsOf_ge (t :: r) i p m
    simp
    omega
  | t :: r, i, n + 1 => by
    show t.kinds.map (fun k => (k, i)) ++ faultsOf (i + 1) (r.take n) = (t.kinds.map (fun k => (k, i)) ++ faultsOf (i + 1) r).filter _
    rw [faultsOf_take r (i + 1) n, List.filter_append]
    congr 1
    · symm
      rw [List.filter_eq_self]
      intro p m
      obtain ⟨k, _, rfl⟩ := List.mem_map.mp m
      simp
    · congr 1
      funext p
      congr 1
      rw [eq_iff_iff]
      omega
end Ld

set_option Elab.async false
set_option linter.all false
set_option maxRecDepth 100000
set_option maxHeartbeats 2000000
/-! Desks by other names. -/
namespace Ld
open PySem PySem.Spec PyProof.Rows L2
theorem allCongr {α : Type} {xs : List α} {p q : α → Bool} (h : ∀ x ∈ xs, p x = q x) : xs.all p = xs.all q := by
  induction xs with
  | nil => rfl
  | cons x r ih => rw [List.all_cons, List.all_cons, h x List.mem_cons_self, ih fun y m => h y (List.mem_cons_of_mem _ m)]
/-- what the rules at an event look like -/
def RuOk (dsk : List Str) (r : Ru) : Prop := (∀ d ∈ r.2.1, TestIs dsk d) ∧ ∀ d ∈ r.2.2, ActIs dsk d
theorem rulesAt_ok {dsk : List Str} (ev : Str) : ∀ (rs : List PyData) (i : Nat), (∀ e ∈ rs, isRuleD dsk e = true) → ∀ r ∈ rulesAt ev i rs, RuOk dsk r
  | [], _, _ => fun _ m => nomatch m
  | d :: rs, i, h => by
    have ih := rulesAt_ok ev rs (i + 1) fun e m => h e (List.mem_cons_of_mem _ m)
    obtain ⟨z, ts, as, rfl, _, _, l, ht, ha⟩ := rule_of (h _ List.mem_cons_self)
    intro r m
    rw [rulesAt_cons] at m
    rcases List.mem_append.mp m with m | m
    · split at m
      · rw [List.mem_singleton.mp m]
        exact ⟨ht, ha⟩
      · cases m
    · exact ih r m
def rnTk (f : Str → Str) (t : Tk) : Tk := { t with desk := f t.desk }
def rnEf (f : Str → Str) (e : Ef) : Ef := { e with tk := rnTk f e.tk }
def rnTn (f : Str → Str) (t : Tn) : Tn := { t with behind := rnTk f t.behind }
/-- a test, an action or a deed with other names -/
def rnD (f : Str → Str) : PyData → PyData
  | .tuple (.str k :: .str z :: r) => if k = "desk" ∨ k = "hand" then .tuple (.str k :: .str (f z) :: r) else .tuple (.str k :: .str z :: r)
  | d => d
def rnRu (f : Str → Str) (r : Ru) : Ru := (r.1, r.2.1.map (rnD f), r.2.2.map (rnD f))
def rnRule (f : Str → Str) : PyData → PyData
  | .tuple [ev, .tuple ts, .tuple as] => .tuple [ev, .tuple (ts.map (rnD f)), .tuple (as.map (rnD f))]
  | d => d
def InjOn (f : Str → Str) (dsk : List Str) : Prop := ∀ a ∈ dsk, ∀ b ∈ dsk, f a = f b → a = b
section
variable {f : Str → Str} {dsk : List Str}
theorem rn_no {k z : Str} {r : List PyData} (h : ¬ (k = "desk" ∨ k = "hand")) : rnD f (.tuple (.str k :: .str z :: r)) = .tuple (.str k :: .str z :: r) := by
  show (if k = "desk" ∨ k = "hand" then PyData.tuple (.str k :: .str (f z) :: r) else .tuple (.str k :: .str z :: r)) = _
  exact if_neg h
theorem rn_desk {z : Str} {r : List PyData} : rnD f (.tuple (.str "desk" :: .str z :: r)) = .tuple (.str "desk" :: .str (f z) :: r) := by
  show (if ("desk" : Str) = "desk" ∨ ("desk" : Str) = "hand" then PyData.tuple (.str "desk" :: .str (f z) :: r) else .tuple (.str "desk" :: .str z :: r)) = _
  exact if_pos (.inl rfl)
theorem rn_hand {z : Str} {r : List PyData} : rnD f (.tuple (.str "hand" :: .str z :: r)) = .tuple (.str "hand" :: .str (f z) :: r) := by
  show (if ("hand" : Str) = "desk" ∨ ("hand" : Str) = "hand" then PyData.tuple (.str "hand" :: .str (f z) :: r) else .tuple (.str "hand" :: .str z :: r)) = _
  exact if_pos (.inr rfl)
theorem inj_iff (i : InjOn f dsk) {a b : Str} (ha : a ∈ dsk) (hb : b ∈ dsk) : (f a = f b) = (a = b) := propext ⟨i a ha b hb, fun e => e ▸ rfl⟩
theorem holds_desk {t : Tk} {z : Str} {b : Bool} : holdsT t (.tuple [.str "desk", .str z, .bool b]) = decide (decide (t.desk = z) = b) := by
  show (if ("desk" : Str) = "status" then decide (decide (t.status = z) = b) else decide (decide (t.desk = z) = b)) = _
  exact if_neg (by decide)
theorem holds_status {t : Tk} {z : Str} {b : Bool} : holdsT t (.tuple [.str "status", .str z, .bool b]) = decide (decide (t.status = z) = b) := by
  show (if ("status" : Str) = "status" then decide (decide (t.status = z) = b) else decide (decide (t.desk = z) = b)) = _
  exact if_pos rfl
theorem act_desk {e : Ef} {z : Str} : actT e (.tuple [.str "desk", .str z]) = moveS e z := by
  show (if ("desk" : Str) = "status" then setS e z else moveS e z) = _
  exact if_neg (by decide)
theorem act_status {e : Ef} {z : Str} : actT e (.tuple [.str "status", .str z]) = setS e z := by
  show (if ("status" : Str) = "status" then setS e z else moveS e z) = _
  exact if_pos rfl
theorem holds_rn (i : InjOn f dsk) {d : PyData} {t : Tk} (h : TestIs dsk d) (m : t.desk ∈ dsk) : holdsT (rnTk f t) (rnD f d) = holdsT t d := by
  cases h with
  | status z b h => rw [rn_no (by decide)]; rfl
  | desk z b h =>
    rw [rn_desk]
    rw [holds_desk, holds_desk]
    show decide (decide (f t.desk = f z) = b) = _
    simp only [inj_iff i m h]
  | answered b => rfl
  | marked b => rfl
  | days n h g => rfl
theorem stop_rn {a : PyData} (h : ActIs dsk a) : isStop (rnD f a) = isStop a := by
  cases h with
  | status z h => rw [rn_no (by decide)]
  | desk z h => rw [rn_desk]; rfl
  | reply => rfl
  | mark b => rfl
  | stop => rfl
theorem act_rn (i : InjOn f dsk) {a : PyData} {e : Ef} (h : ActIs dsk a) (m : e.tk.desk ∈ dsk) : actT (rnEf f e) (rnD f a) = rnEf f (actT e a) ∧ (actT e a).tk.desk ∈ dsk := by
  cases h with
  | status z h =>
    rw [rn_no (by decide), act_status, act_status]
    unfold setS
    constructor
    · show (if e.tk.status = z then _ else _) = _
      split <;> rfl
    · split <;> exact m
  | desk z h =>
    rw [rn_desk, act_desk, act_desk]
    unfold moveS
    constructor
    · show (if f e.tk.desk = f z then _ else _) = _
      by_cases c : e.tk.desk = z
      · rw [if_pos c, if_pos (congrArg f c)]
      · rw [if_neg c, if_neg fun y => c (i _ m _ h y)]
        rfl
    · split
      · exact m
      · exact h
  | reply => exact ⟨rfl, m⟩
  | mark b => exact ⟨rfl, m⟩
  | stop => exact ⟨rfl, m⟩
theorem carry_rn (i : InjOn f dsk) : ∀ (as : List PyData) (e : Ef), (∀ a ∈ as, ActIs dsk a) → e.tk.desk ∈ dsk → carryT (rnEf f e) (as.map (rnD f)) = (rnEf f (carryT e as).1, (carryT e as).2) ∧ (carryT e as).1.tk.desk ∈ dsk
  | [], e, _, m => ⟨rfl, m⟩
  | a :: r, e, h, m => by
    have ha := h a List.mem_cons_self
    obtain ⟨x, y⟩ := act_rn i ha m
    obtain ⟨p, q⟩ := carry_rn i r (actT e a) (fun b k => h b (List.mem_cons_of_mem _ k)) y
    show (if isStop (rnD f a) then _ else carryT (actT (rnEf f e) (rnD f a)) (r.map (rnD f))) = (rnEf f (if isStop a then (e, true) else carryT (actT e a) r).1, (if isStop a then (e, true) else carryT (actT e a) r).2) ∧ (if isStop a then (e, true) else carryT (actT e a) r).1.tk.desk ∈ dsk
    rw [stop_rn ha, x, p]
    split
    · exact ⟨rfl, m⟩
    · exact ⟨rfl, q⟩
theorem tryT_cons (k : Int) (ts as : List PyData) (r : List Ru) (e : Ef) : tryT e ((k, ts, as) :: r) = if ts.all (holdsT e.tk) then (if (carryT { e with acted := e.acted ++ [k] } as).2 then (carryT { e with acted := e.acted ++ [k] } as).1 else tryT (carryT { e with acted := e.acted ++ [k] } as).1 r) else tryT e r := rfl
theorem try_rn (i : InjOn f dsk) : ∀ (rs : List Ru) (e : Ef), (∀ r ∈ rs, RuOk dsk r) → e.tk.desk ∈ dsk → tryT (rnEf f e) (rs.map (rnRu f)) = rnEf f (tryT e rs) ∧ (tryT e rs).tk.desk ∈ dsk
  | [], e, _, m => ⟨rfl, m⟩
  | (k, ts, as) :: r, e, h, m => by
    obtain ⟨ht, ha⟩ := h _ List.mem_cons_self
    have hr : ∀ x ∈ r, RuOk dsk x := fun x z => h x (List.mem_cons_of_mem _ z)
    obtain ⟨p, q⟩ := carry_rn i as { e with acted := e.acted ++ [k] } ha m
    have e1 : ({ rnEf f e with acted := (rnEf f e).acted ++ [k] } : Ef) = rnEf f { e with acted := e.acted ++ [k] } := rfl
    have et : (ts.map (rnD f)).all (holdsT (rnEf f e).tk) = ts.all (holdsT e.tk) := by
      rw [List.all_map]
      refine allCongr fun d hd => ?_
      exact holds_rn i (ht d hd) m
    show tryT (rnEf f e) ((k, ts.map (rnD f), as.map (rnD f)) :: r.map (rnRu f)) = _ ∧ _
    rw [tryT_cons, tryT_cons, et, e1, p]
    dsimp only
    obtain ⟨p1, q1⟩ := try_rn i r _ hr q
    obtain ⟨p2, q2⟩ := try_rn i r e hr m
    rw [p1, p2]
    split
    · split
      · exact ⟨rfl, q⟩
      · exact ⟨rfl, q1⟩
    · exact ⟨rfl, q2⟩
theorem rulesAt_rn (ev : Str) : ∀ (rs : List PyData) (k : Nat), (∀ e ∈ rs, isRuleD dsk e = true) → rulesAt ev k (rs.map (rnRule f)) = (rulesAt ev k rs).map (rnRu f)
  | [], _, _ => rfl
  | d :: rs, k, h => by
    have ih := rulesAt_rn ev rs (k + 1) fun e m => h e (List.mem_cons_of_mem _ m)
    obtain ⟨z, ts, as, rfl, _⟩ := rule_of (h _ List.mem_cons_self)
    show rulesAt ev k (PyData.tuple [.str z, .tuple (ts.map (rnD f)), .tuple (as.map (rnD f))] :: rs.map (rnRule f)) = _
    rw [rulesAt_cons, rulesAt_cons, ih, List.map_append]
    split <;> rfl
theorem eff_rn (i : InjOn f dsk) {rs : List PyData} (h : ∀ e ∈ rs, isRuleD dsk e = true) (ev : Str) {t : Tk} (m : t.desk ∈ dsk) : effT (rs.map (rnRule f)) ev (rnTk f t) = rnEf f (effT rs ev t) ∧ (effT rs ev t).tk.desk ∈ dsk := by
  unfold effT
  rw [rulesAt_rn ev rs 0 h]
  exact try_rn i _ (efNew t) (rulesAt_ok ev rs 0 h) m
/-- what rules do, and what they do by other names -/
def EfRn (f : Str → Str) (dsk : List Str) (ef ef' : Str → Tk → Ef) : Prop := ∀ ev t, t.desk ∈ dsk → ef' ev (rnTk f t) = rnEf f (ef ev t) ∧ (ef ev t).tk.desk ∈ dsk
theorem queue_rn {ef ef' : Str → Tk → Ef} (g : EfRn f dsk ef ef') : ∀ (n : Nat) (q : List Str) (t : Tn), t.behind.desk ∈ dsk → queueT ef' n q (rnTn f t) = ((queueT ef n q t).1, rnTn f (queueT ef n q t).2) ∧ (queueT ef n q t).2.behind.desk ∈ dsk
  | 0, q, t, m => ⟨rfl, m⟩
  | n + 1, [], t, m => ⟨rfl, m⟩
  | n + 1, ev :: q, t, m => by
    obtain ⟨x, y⟩ := g ev t.behind m
    show queueT ef' n (q ++ (ef' ev (rnTk f t.behind)).events) (takeT (rnTn f t) (ef' ev (rnTk f t.behind))) = _ ∧ _
    rw [x]
    exact queue_rn g n (q ++ (ef ev t.behind).events) (takeT t (ef ev t.behind)) y
theorem run_rn {ef ef' : Str → Tk → Ef} (g : EfRn f dsk ef ef') (ev : Option Str) {t : Tk} (m : t.desk ∈ dsk) : runT ef' ev (rnTk f t) = rnTn f (runT ef ev t) ∧ (runT ef ev t).behind.desk ∈ dsk := by
  obtain ⟨x, y⟩ := queue_rn g 50 (firstQ ev) (tnNew ev t) m
  unfold runT
  have e : tnNew ev (rnTk f t) = rnTn f (tnNew ev t) := rfl
  rw [e, x]
  exact ⟨rfl, y⟩
theorem begun_rn (i : InjOn f dsk) {dsk' : List Str} (hd : dsk'.headD ("" : Str) = f (dsk.headD ("" : Str))) (hm : dsk.headD ("" : Str) ∈ dsk) {tk : Option Tk} {d : PyData} (h : DeedIs dsk d) (m : ∀ t, tk = some t → t.desk ∈ dsk) :
    begunT dsk' (tk.map (rnTk f)) (rnD f d) = ((begunT dsk tk d).1, rnTk f (begunT dsk tk d).2) ∧ (begunT dsk tk d).2.desk ∈ dsk := by
  have e0 : (tk.map (rnTk f)).getD ⟨"new", dsk'.headD ("" : Str), false, 0, false⟩ = rnTk f (tk.getD ⟨"new", dsk.headD ("" : Str), false, 0, false⟩) := by
    cases tk with
    | none =>
      show Tk.mk "new" (dsk'.headD ("" : Str)) false 0 false = _
      rw [hd]
      rfl
    | some t => rfl
  have m0 : (tk.getD ⟨"new", dsk.headD ("" : Str), false, 0, false⟩).desk ∈ dsk := by
    cases tk with
    | none => exact hm
    | some t => exact m t rfl
  unfold begunT
  rw [e0]
  generalize tk.getD ⟨"new", dsk.headD ("" : Str), false, 0, false⟩ = t at m0 ⊢
  cases h with
  | letter => exact ⟨rfl, m0⟩
  | answer => exact ⟨rfl, m0⟩
  | day => exact ⟨rfl, m0⟩
  | hand z h =>
    rw [rn_hand]
    refine ⟨?_, h⟩
    show ((if f t.desk = f z then (none : Option Str) else some ("moved" : Str)), ({ rnTk f t with desk := f z } : Tk)) = ((if t.desk = z then (none : Option Str) else some ("moved" : Str)), rnTk f { t with desk := z })
    by_cases c : t.desk = z
    · rw [if_pos c, if_pos (congrArg f c)]
      rfl
    · rw [if_neg c, if_neg fun e => c (i _ m0 _ h e)]
      rfl
  | set z h =>
    rw [rn_no (by decide)]
    exact ⟨rfl, m0⟩
theorem turns_rn (i : InjOn f dsk) {ef ef' : Str → Tk → Ef} (g : EfRn f dsk ef ef') {dsk' : List Str} (hd : dsk'.headD ("" : Str) = f (dsk.headD ("" : Str))) (hm : dsk.headD ("" : Str) ∈ dsk) : ∀ (ds : List PyData) (tk : Option Tk), (∀ d ∈ ds, DeedIs dsk d) → (∀ t, tk = some t → t.desk ∈ dsk) →
    turnsT ef' dsk' (tk.map (rnTk f)) (ds.map (rnD f)) = (turnsT ef dsk tk ds).map (rnTn f)
  | [], _, _, _ => rfl
  | d :: r, tk, h, m => by
    obtain ⟨x, y⟩ := begun_rn i hd hm (h d List.mem_cons_self) m
    obtain ⟨p, q⟩ := run_rn g (begunT dsk tk d).1 y
    have e1 : turnT ef' dsk' (tk.map (rnTk f)) (rnD f d) = rnTn f (turnT ef dsk tk d) := by
      unfold turnT
      rw [x]
      exact p
    show turnT ef' dsk' (tk.map (rnTk f)) (rnD f d) :: turnsT ef' dsk' (some (turnT ef' dsk' (tk.map (rnTk f)) (rnD f d)).behind) (r.map (rnD f)) = rnTn f (turnT ef dsk tk d) :: (turnsT ef dsk (some (turnT ef dsk tk d).behind) r).map (rnTn f)
    rw [e1]
    congr 1
    exact turns_rn i g hd hm r (some (turnT ef dsk tk d).behind) (fun b k => h b (List.mem_cons_of_mem _ k)) fun t e => by injection e with e; subst e; exact q
theorem faults_rn : ∀ (ts : List Tn) (k : Nat), faultsOf k (ts.map (rnTn f)) = faultsOf k ts
  | [], _ => rfl
  | t :: r, k => by
    show t.kinds.map _ ++ faultsOf (k + 1) (r.map (rnTn f)) = t.kinds.map _ ++ _
    rw [faults_rn r]
theorem test_mk {d : PyData} (h : TestIs dsk d) : hasForm testForms dsk d = true := by
  cases h with
  | status z b h => exact ft_status h
  | desk z b h => exact ft_desk h
  | answered b => exact ft_answered
  | marked b => exact ft_marked
  | days n h g => exact ft_days h g
theorem act_mk {d : PyData} (h : ActIs dsk d) : hasForm actionForms dsk d = true := by
  cases h with
  | status z h => exact fa_status h
  | desk z h => exact fa_desk h
  | reply => exact fa_reply
  | mark b => exact fa_mark
  | stop => exact fa_stop
theorem deed_mk {d : PyData} (h : DeedIs dsk d) : isDeedD dsk d = true := by
  cases h with
  | letter => rfl
  | answer => rfl
  | day => rfl
  | hand z h =>
    have e : isDeedD dsk (.tuple [.str "hand", .str z]) = (isWordD dsk (.str z) && true) := rfl
    rw [e, word_mem h]
    rfl
  | set z h =>
    have e : isDeedD dsk (.tuple [.str "set", .str z]) = (isWordD statusesS (.str z) && true) := rfl
    rw [e, word_mem h]
    rfl
theorem test_rn {d : PyData} (h : TestIs dsk d) : TestIs (dsk.map f) (rnD f d) := by
  cases h with
  | status z b h => rw [rn_no (by decide)]; exact .status z b h
  | desk z b h => rw [rn_desk]; exact .desk _ b (List.mem_map.mpr ⟨z, h, rfl⟩)
  | answered b => exact .answered b
  | marked b => exact .marked b
  | days n h g => exact .days n h g
theorem actI_rn {d : PyData} (h : ActIs dsk d) : ActIs (dsk.map f) (rnD f d) := by
  cases h with
  | status z h => rw [rn_no (by decide)]; exact .status z h
  | desk z h => rw [rn_desk]; exact .desk _ (List.mem_map.mpr ⟨z, h, rfl⟩)
  | reply => exact .reply
  | mark b => exact .mark b
  | stop => exact .stop
theorem deed_rn {d : PyData} (h : DeedIs dsk d) : DeedIs (dsk.map f) (rnD f d) := by
  cases h with
  | letter => exact .letter
  | answer => exact .answer
  | day => exact .day
  | hand z h => rw [rn_hand]; exact .hand _ (List.mem_map.mpr ⟨z, h, rfl⟩)
  | set z h => rw [rn_no (by decide)]; exact .set z h
theorem rule_rn {d : PyData} (h : isRuleD dsk d = true) : isRuleD (dsk.map f) (rnRule f d) = true := by
  obtain ⟨z, ts, as, rfl, hz, l1, l2, ht, ha⟩ := rule_of h
  have l3 : 1 ≤ as.length := by
    unfold isRuleD at h
    simp only [Bool.and_eq_true, decide_eq_true_eq] at h
    exact h.1.1.2
  show (isWordD eventsS (.str z) && decide ((ts.map (rnD f)).length ≤ 4) && (ts.map (rnD f)).all (hasForm testForms (dsk.map f)) && decide (1 ≤ (as.map (rnD f)).length) && decide ((as.map (rnD f)).length ≤ 4) && (as.map (rnD f)).all (hasForm actionForms (dsk.map f))) = true
  simp only [Bool.and_eq_true, decide_eq_true_eq, List.all_eq_true, List.length_map]
  refine ⟨⟨⟨⟨⟨word_mem hz, l1⟩, fun t m => ?_⟩, l3⟩, l2⟩, fun t m => ?_⟩
  · obtain ⟨t0, m0, rfl⟩ := List.mem_map.mp m
    exact test_mk (test_rn (ht t0 m0))
  · obtain ⟨t0, m0, rfl⟩ := List.mem_map.mp m
    exact act_mk (actI_rn (ha t0 m0))
theorem inj_of_map : ∀ {dsk : List Str}, (dsk.map f).Nodup → InjOn f dsk
  | [], _ => fun _ m => nomatch m
  | z :: r, h => by
    rw [List.map_cons, List.nodup_cons] at h
    have ih := inj_of_map h.2
    intro a ma b mb e
    rcases List.mem_cons.mp ma with e1 | m1 <;> rcases List.mem_cons.mp mb with e2 | m2
    · rw [e1, e2]
    · rw [e1] at e
      exact absurd (List.mem_map.mpr ⟨b, m2, e.symm⟩ : f z ∈ r.map f) h.1
    · rw [e2] at e
      exact absurd (List.mem_map.mpr ⟨a, m1, e⟩ : f z ∈ r.map f) h.1
    · exact ih a m1 b m2 e
/-- names by places are names by names -/
theorem names_of {oth : List Str} (l : oth.length = dsk.length) (nd : dsk.Nodup) : ∃ f : Str → Str, oth = dsk.map f ∧ ∀ (j : Nat) (z y : Str), dsk[j]? = some z → oth[j]? = some y → y = f z := by
  have key : ∀ (j : Nat) (z y : Str), dsk[j]? = some z → oth[j]? = some y → y = (oth[dsk.idxOf z]?).getD "" := fun j z y h1 h2 => by
    obtain ⟨hj, e⟩ := List.getElem?_eq_some_iff.mp h1
    have ei : dsk.idxOf z = j := by
      rw [← e]
      exact List.Nodup.idxOf_getElem nd j hj
    rw [ei, h2]
    rfl
  refine ⟨fun z => (oth[dsk.idxOf z]?).getD "", List.ext_getElem (by simp [l]) fun i h1 h2 => ?_, key⟩
  rw [List.getElem_map]
  exact key i _ _ (List.getElem?_eq_getElem (by simpa using h2)) (List.getElem?_eq_getElem h1)
end
end Ld

set_option Elab.async false
set_option linter.all false
set_option maxRecDepth 100000
set_option maxHeartbeats 2000000
/-! Rules that do not act, rules by other indexes. -/
namespace Ld
open PySem PySem.Spec PyProof.Rows L2
def ixEf (π : Int → Int) (e : Ef) : Ef := { e with acted := e.acted.map π }
def ixTn (π : Int → Int) (t : Tn) : Tn := { t with acted := t.acted.map π }
def ixRu (π : Int → Int) (r : Ru) : Ru := (π r.1, r.2)
section
variable {π : Int → Int} {out : List Int}
theorem act_ix (e : Ef) (a : PyData) : actT (ixEf π e) a = ixEf π (actT e a) := by
  unfold actT
  split
  · split
    · unfold setS
      show (if e.tk.status = _ then _ else _) = _
      split <;> rfl
    · unfold moveS
      show (if e.tk.desk = _ then _ else _) = _
      split <;> rfl
  · rfl
  · rfl
theorem carry_ix : ∀ (as : List PyData) (e : Ef), carryT (ixEf π e) as = (ixEf π (carryT e as).1, (carryT e as).2)
  | [], e => rfl
  | a :: r, e => by
    unfold carryT
    split
    · rfl
    · rw [act_ix, carry_ix r]
theorem try_ix : ∀ (rs : List Ru) (e : Ef), tryT (ixEf π e) (rs.map (ixRu π)) = ixEf π (tryT e rs)
  | [], e => rfl
  | (k, ts, as) :: r, e => by
    have e1 : ({ ixEf π e with acted := (ixEf π e).acted ++ [π k] } : Ef) = ixEf π { e with acted := e.acted ++ [k] } := by
      show Ef.mk _ _ _ _ _ _ = Ef.mk _ _ _ _ _ _
      rw [List.map_append]
      rfl
    show (if ts.all (holdsT e.tk) then (if (carryT { ixEf π e with acted := (ixEf π e).acted ++ [π k] } as).2 then (carryT { ixEf π e with acted := (ixEf π e).acted ++ [π k] } as).1 else tryT (carryT { ixEf π e with acted := (ixEf π e).acted ++ [π k] } as).1 (r.map (ixRu π))) else tryT (ixEf π e) (r.map (ixRu π))) = _
    rw [e1, carry_ix]
    dsimp only
    rw [try_ix r, try_ix r]
    conv => rhs; unfold tryT
    split
    · split <;> rfl
    · rfl
theorem try_more : ∀ (rs : List Ru) (e : Ef), ∀ k ∈ e.acted, k ∈ (tryT e rs).acted
  | [], e, k, m => m
  | (i, ts, as) :: r, e, k, m => by
    have h : k ∈ (carryT { e with acted := e.acted ++ [i] } as).1.acted := by
      rw [carryT_ac]
      exact List.mem_append_left _ m
    unfold tryT
    split
    · split
      · exact h
      · exact try_more r _ k h
    · exact try_more r e k m
theorem try_skip : ∀ (rs : List Ru) (e : Ef), (∀ k ∈ out, k ∉ (tryT e rs).acted) → tryT e (rs.filter fun r => decide (r.1 ∉ out)) = tryT e rs
  | [], e, _ => rfl
  | (i, ts, as) :: r, e, h => by
    have hi : i ∈ (carryT { e with acted := e.acted ++ [i] } as).1.acted := by
      rw [carryT_ac]
      simp
    unfold tryT at h
    by_cases c : i ∈ out
    · rw [List.filter_cons_of_neg (by simpa using c)]
      by_cases t : ts.all (holdsT e.tk) = true
      · rw [if_pos t] at h
        exfalso
        split at h
        · exact h i c hi
        · exact h i c (try_more r _ i hi)
      · rw [if_neg t] at h
        rw [try_skip r e h]
        conv => rhs; unfold tryT
        rw [if_neg t]
    · rw [List.filter_cons_of_pos (by simpa using c)]
      unfold tryT
      by_cases t : ts.all (holdsT e.tk) = true
      · rw [if_pos t] at h
        rw [if_pos t, if_pos t]
        split
        · rfl
        · rename_i s
          rw [if_neg s] at h
          exact try_skip r _ h
      · rw [if_neg t] at h
        rw [if_neg t, if_neg t]
        exact try_skip r e h
/-- the same by other indexes, where none of some acts -/
def EfIx (π : Int → Int) (out : List Int) (ef ef' : Str → Tk → Ef) : Prop := ∀ ev t, (∀ k ∈ out, k ∉ (ef ev t).acted) → ef' ev t = ixEf π (ef ev t)
theorem queue_more (ef : Str → Tk → Ef) : ∀ (n : Nat) (q : List Str) (t : Tn), ∀ k ∈ t.acted, k ∈ (queueT ef n q t).2.acted
  | 0, q, t, k, m => m
  | n + 1, [], t, k, m => m
  | n + 1, ev :: q, t, k, m => queue_more ef n (q ++ (ef ev t.behind).events) (takeT t (ef ev t.behind)) k (List.mem_append_left _ m)
theorem take_ix (t : Tn) (e : Ef) : takeT (ixTn π t) (ixEf π e) = ixTn π (takeT t e) := by
  show Tn.mk _ _ (t.acted.map π ++ e.acted.map π) _ _ _ _ _ = Tn.mk _ _ ((t.acted ++ e.acted).map π) _ _ _ _ _
  rw [List.map_append]
  rfl
theorem queue_ix {ef ef' : Str → Tk → Ef} (g : EfIx π out ef ef') : ∀ (n : Nat) (q : List Str) (t : Tn), (∀ k ∈ out, k ∉ (queueT ef n q t).2.acted) → queueT ef' n q (ixTn π t) = ((queueT ef n q t).1, ixTn π (queueT ef n q t).2)
  | 0, q, t, _ => rfl
  | n + 1, [], t, _ => rfl
  | n + 1, ev :: q, t, h => by
    have h : ∀ k ∈ out, k ∉ (queueT ef n (q ++ (ef ev t.behind).events) (takeT t (ef ev t.behind))).2.acted := h
    have x : ef' ev t.behind = ixEf π (ef ev t.behind) := g ev t.behind fun k m c => h k m (queue_more ef n _ _ k (List.mem_append_right _ c))
    show queueT ef' n (q ++ (ef' ev t.behind).events) (takeT (ixTn π t) (ef' ev t.behind)) = _
    rw [x, take_ix]
    exact queue_ix g n (q ++ (ef ev t.behind).events) (takeT t (ef ev t.behind)) h
theorem kinds_ix (t : Tn) : kindsT (ixTn π t) = kindsT t := by
  unfold kindsT
  have e : (ixTn π t).acted.length = t.acted.length := List.length_map ..
  rw [e]
  rfl
theorem run_ix {ef ef' : Str → Tk → Ef} (g : EfIx π out ef ef') (ev : Option Str) (t : Tk) (h : ∀ k ∈ out, k ∉ (runT ef ev t).acted) : runT ef' ev t = ixTn π (runT ef ev t) := by
  have x := queue_ix g 50 (firstQ ev) (tnNew ev t) h
  unfold runT
  have e : tnNew ev t = ixTn π (tnNew ev t) := rfl
  rw [e, x]
  unfold endT
  dsimp only
  have k := kinds_ix (π := π) { (queueT ef 50 (firstQ ev) (tnNew ev t)).2 with endless := !(queueT ef 50 (firstQ ev) (tnNew ev t)).1.isEmpty }
  show Tn.mk _ _ _ _ _ _ _ _ = Tn.mk _ _ _ _ _ _ _ _
  congr 1
theorem turns_ix {ef ef' : Str → Tk → Ef} (g : EfIx π out ef ef') (dsk : List Str) : ∀ (ds : List PyData) (tk : Option Tk), (∀ t ∈ turnsT ef dsk tk ds, ∀ k ∈ out, k ∉ t.acted) → turnsT ef' dsk tk ds = (turnsT ef dsk tk ds).map (ixTn π)
  | [], _, _ => rfl
  | d :: r, tk, h => by
    have x : turnT ef' dsk tk d = ixTn π (turnT ef dsk tk d) := run_ix g _ _ (h _ List.mem_cons_self)
    show turnT ef' dsk tk d :: turnsT ef' dsk (some (turnT ef' dsk tk d).behind) r = ixTn π (turnT ef dsk tk d) :: (turnsT ef dsk (some (turnT ef dsk tk d).behind) r).map (ixTn π)
    rw [x]
    congr 1
    exact turns_ix g dsk r _ fun t m => h t (List.mem_cons_of_mem _ m)
theorem faults_ix : ∀ (ts : List Tn) (k : Nat), faultsOf k (ts.map (ixTn π)) = faultsOf k ts
  | [], _ => rfl
  | t :: r, k => by
    show t.kinds.map _ ++ faultsOf (k + 1) (r.map (ixTn π)) = t.kinds.map _ ++ _
    rw [faults_ix r]
theorem efIx_of {rs rs' : List PyData} (h : ∀ ev, rulesAt ev 0 rs' = ((rulesAt ev 0 rs).filter fun r => decide (r.1 ∉ out)).map (ixRu π)) : EfIx π out (effT rs) (effT rs') := fun ev t no => by
  unfold effT at no ⊢
  rw [h ev]
  have x := try_ix (π := π) ((rulesAt ev 0 rs).filter fun r => decide (r.1 ∉ out)) (efNew t)
  rw [try_skip _ _ no] at x
  exact x
end
/-- a rule's indexes are where it stands -/
theorem rulesAt_ge {dsk : List Str} (ev : Str) : ∀ (rs : List PyData) (i : Nat), (∀ e ∈ rs, isRuleD dsk e = true) → ∀ r ∈ rulesAt ev i rs, (i : Int) ≤ r.1 ∧ r.1 < ((i + rs.length : Nat) : Int)
  | [], _, _ => fun _ m => nomatch m
  | d :: rs, i, h => by
    have ih := rulesAt_ge ev rs (i + 1) fun e m => h e (List.mem_cons_of_mem _ m)
    obtain ⟨z, ts, as, rfl, _⟩ := rule_of (h _ List.mem_cons_self)
    intro r m
    rw [rulesAt_cons] at m
    simp only [List.length_cons]
    rcases List.mem_append.mp m with m | m
    · split at m
      · rw [List.mem_singleton.mp m]
        dsimp only
        omega
      · cases m
    · have := ih r m
      omega
end Ld

set_option Elab.async false
set_option linter.all false
set_option maxRecDepth 100000
set_option maxHeartbeats 2000000
/-! Tickets of good histories; what is told of them can be held against each other. -/
namespace Ld
open PySem PySem.Spec PyProof.Rows L2
def TkOk (dsk : List Str) (t : Tk) : Prop := t.status ∈ statusesS ∧ t.desk ∈ dsk
section
variable {dsk : List Str}
theorem act_ok {a : PyData} {e : Ef} (h : ActIs dsk a) (m : TkOk dsk e.tk) : TkOk dsk (actT e a).tk := by
  cases h with
  | status z h =>
    rw [act_status]
    unfold setS
    split
    · exact m
    · exact ⟨h, m.2⟩
  | desk z h =>
    rw [act_desk]
    unfold moveS
    split
    · exact m
    · exact ⟨m.1, h⟩
  | reply => exact m
  | mark b => exact m
  | stop => exact m
theorem carry_ok : ∀ (as : List PyData) (e : Ef), (∀ a ∈ as, ActIs dsk a) → TkOk dsk e.tk → TkOk dsk (carryT e as).1.tk
  | [], e, _, m => m
  | a :: r, e, h, m => by
    unfold carryT
    split
    · exact m
    · exact carry_ok r _ (fun b k => h b (List.mem_cons_of_mem _ k)) (act_ok (h a List.mem_cons_self) m)
theorem try_ok : ∀ (rs : List Ru) (e : Ef), (∀ r ∈ rs, RuOk dsk r) → TkOk dsk e.tk → TkOk dsk (tryT e rs).tk
  | [], e, _, m => m
  | (k, ts, as) :: r, e, h, m => by
    have hr : ∀ x ∈ r, RuOk dsk x := fun x z => h x (List.mem_cons_of_mem _ z)
    have c : TkOk dsk (carryT { e with acted := e.acted ++ [k] } as).1.tk := carry_ok as _ (h _ List.mem_cons_self).2 m
    rw [tryT_cons]
    split
    · split
      · exact c
      · exact try_ok r _ hr c
    · exact try_ok r e hr m
theorem eff_ok {rs : List PyData} (h : ∀ e ∈ rs, isRuleD dsk e = true) (ev : Str) {t : Tk} (m : TkOk dsk t) : TkOk dsk (effT rs ev t).tk := try_ok _ (efNew t) (rulesAt_ok ev rs 0 h) m
theorem queue_ok {ef : Str → Tk → Ef} (g : ∀ ev t, TkOk dsk t → TkOk dsk (ef ev t).tk) : ∀ (n : Nat) (q : List Str) (t : Tn), TkOk dsk t.behind → TkOk dsk (queueT ef n q t).2.behind
  | 0, q, t, m => m
  | n + 1, [], t, m => m
  | n + 1, ev :: q, t, m => queue_ok g n (q ++ (ef ev t.behind).events) (takeT t (ef ev t.behind)) (g ev _ m)
theorem begun_ok (hm : dsk.headD ("" : Str) ∈ dsk) {tk : Option Tk} {d : PyData} (h : DeedIs dsk d) (m : ∀ t, tk = some t → TkOk dsk t) : TkOk dsk (begunT dsk tk d).2 := by
  have m0 : TkOk dsk (tk.getD ⟨"new", dsk.headD ("" : Str), false, 0, false⟩) := by
    cases tk with
    | none => exact ⟨(by decide +kernel : ("new" : Str) ∈ statusesS), hm⟩
    | some t => exact m t rfl
  unfold begunT
  generalize tk.getD ⟨"new", dsk.headD ("" : Str), false, 0, false⟩ = t at m0 ⊢
  cases h with
  | letter => exact m0
  | answer => exact m0
  | day => exact m0
  | hand z h => exact ⟨m0.1, h⟩
  | set z h => exact ⟨h, m0.2⟩
theorem turns_ok {ef : Str → Tk → Ef} (g : ∀ ev t, TkOk dsk t → TkOk dsk (ef ev t).tk) (hm : dsk.headD ("" : Str) ∈ dsk) : ∀ (ds : List PyData) (tk : Option Tk), (∀ d ∈ ds, DeedIs dsk d) → (∀ t, tk = some t → TkOk dsk t) → ∀ t ∈ turnsT ef dsk tk ds, TkOk dsk t.behind
  | [], _, _, _ => fun _ m => nomatch m
  | d :: r, tk, h, m => by
    have x : TkOk dsk (turnT ef dsk tk d).behind := queue_ok g 50 _ (tnNew _ _) (begun_ok hm (h d List.mem_cons_self) m)
    intro t k
    rcases List.mem_cons.mp k with rfl | k
    · exact x
    · exact turns_ok g hm r _ (fun b k => h b (List.mem_cons_of_mem _ k)) (fun t e => by injection e with e; subst e; exact x) t k
theorem head_mem (l : 1 ≤ dsk.length) : dsk.headD ("" : Str) ∈ dsk := by
  cases dsk with
  | nil => simp at l
  | cons a r => exact List.mem_cons_self
theorem rep_lay {t : Tn} (lo : lowOk dsk) (m : TkOk dsk t.behind) : layD 2 (reportD t) := by
  intro e k
  simp only [List.mem_cons, List.not_mem_nil, or_false] at k
  rcases k with rfl | rfl | rfl | rfl
  · intro x hx
    obtain ⟨i, _, rfl⟩ := List.mem_map.mp hx
    trivial
  · trivial
  · intro x hx
    simp only [List.mem_cons, List.not_mem_nil, or_false] at hx
    rcases hx with rfl | rfl | rfl | rfl | rfl
    · exact statuses_ok _ m.1
    · exact lo _ m.2
    · trivial
    · trivial
    · trivial
  · trivial
theorem turns_lay {rs ds : List PyData} (lo : lowOk dsk) (l : 1 ≤ dsk.length) (h : ∀ e ∈ rs, isRuleD dsk e = true) (al : ∀ d ∈ ds, DeedIs dsk d) : ∀ t ∈ turnsT (effT rs) dsk none ds, layD 2 (reportD t) := fun t m =>
  rep_lay lo (turns_ok (fun ev t => eff_ok h ev) (head_mem l) ds none al (fun _ e => nomatch e) t m)
theorem reps_lay {ts : List Tn} (h : ∀ t ∈ ts, layD 2 (reportD t)) : layD 3 (.list (ts.map reportD)) := fun e k => by
  obtain ⟨t, m, rfl⟩ := List.mem_map.mp k
  exact h t m
theorem kinds_low (t : Tn) : ∀ k ∈ kindsT t, PyData.strOk k = true := by
  have one : ∀ (b : Bool) (z : Str), PyData.strOk z = true → ∀ k ∈ oneIf b z, PyData.strOk k = true := fun b z hz k m => by
    unfold oneIf at m
    split at m
    · rw [List.mem_singleton.mp m]; exact hz
    · cases m
  intro k m
  unfold kindsT at m
  rcases List.mem_append.mp m with m | m
  · rcases List.mem_append.mp m with m | m
    · rcases List.mem_append.mp m with m | m
      · exact one _ _ (by decide +kernel) k m
      · exact one _ _ (by decide +kernel) k m
    · exact one _ _ (by decide +kernel) k m
  · exact one _ _ (by decide +kernel) k m
theorem turns_low {ef : Str → Tk → Ef} : ∀ (ds : List PyData) (tk : Option Tk), ∀ t ∈ turnsT ef dsk tk ds, ∀ k ∈ t.kinds, PyData.strOk k = true
  | [], _ => fun _ m => nomatch m
  | d :: r, tk => fun t m => by
    rcases List.mem_cons.mp m with rfl | m
    · exact kinds_low _
    · exact turns_low r _ t m
theorem faults_low : ∀ (ts : List Tn) (i : Nat), (∀ t ∈ ts, ∀ k ∈ t.kinds, PyData.strOk k = true) → ∀ p ∈ faultsOf i ts, PyData.strOk p.1 = true
  | [], _, _ => fun _ m => nomatch m
  | t :: r, i, h => fun p m => by
    rcases List.mem_append.mp m with m | m
    · obtain ⟨k, hk, rfl⟩ := List.mem_map.mp m
      exact h t List.mem_cons_self k hk
    · exact faults_low r (i + 1) (fun u z => h u (List.mem_cons_of_mem _ z)) p m
theorem faults_lay {ps : List (Str × Nat)} (h : ∀ p ∈ ps, PyData.strOk p.1 = true) : layD 2 (.list (ps.map faultD)) := fun e k => by
  obtain ⟨p, m, rfl⟩ := List.mem_map.mp k
  intro x hx
  simp only [List.mem_cons, List.not_mem_nil, or_false] at hx
  rcases hx with rfl | rfl
  · exact h p m
  · trivial
end
/-! ### data held against each other -/
section
variable {K : PySem.W.Frag} {H : Hp} {Q : VK} {v w : V} {d : PyData} {n : Nat}
theorem eq_same {a : Addr} (h : Dp K H (.ref a) d) (g : Dp K H w d) (l : layD n d) (hn : n ≤ 64) (q : Q (.bl true) H) : rEqU K (.ref a) w H Q := by
  rw [rEqU_r]
  exact ⟨d, d, h, g, l.shaped hn, l.shaped hn, by rw [l.refl]; exact q⟩
theorem ne_same {a : Addr} (h : Dp K H (.ref a) d) (g : Dp K H w d) (l : layD n d) (hn : n ≤ 64) (q : Q (.bl false) H) : rNeU K (.ref a) w H Q := by
  rw [rNeU_r]
  exact ⟨d, d, h, g, l.shaped hn, l.shaped hn, by rw [l.refl]; exact q⟩
theorem sl_to {l : Addr} {xs : List V} {k : Nat} (h : SqL K H l xs) (hk : k ≤ xs.length) (q : ∀ p H', Same H H' → H p = none → H' p = some (.lst (xs.take k)) → Q (.ref p) H') : rSlU K (.ref l) none (some (k : Int)) H Q :=
  .inl ⟨l, xs, rfl, h, fun p np => by
    have e : cutV xs none (some (k : Int)) = xs.take k := by
      unfold cutV
      rw [HT.sIx_none, HT.sIx_nat, Nat.min_eq_left hk]
      simp
    rw [e]
    exact q p _ (Same.put (Same.refl H) np) np upd_same⟩
theorem sl_from {l : Addr} {xs : List V} {k : Nat} (h : SqL K H l xs) (hk : k ≤ xs.length) (q : ∀ p H', Same H H' → H p = none → H' p = some (.lst (xs.drop k)) → Q (.ref p) H') : rSlU K (.ref l) (some (k : Int)) none H Q :=
  .inl ⟨l, xs, rfl, h, fun p np => by
    have e : cutV xs (some (k : Int)) none = xs.drop k := by
      unfold cutV
      rw [HT.sIx_none, HT.sIx_nat, Nat.min_eq_left hk]
      rw [List.take_of_length_le (by simp)]
    rw [e]
    exact q p _ (Same.put (Same.refl H) np) np upd_same⟩
theorem len_dl {ds : List PyData} (h : Dp K H v (.list ds)) (q : Q (.int ds.length) H) : rLenU K [v] H Q := by
  obtain ⟨a, xs, rfl, sx, dx⟩ := dp_lst h
  exact len_l sx (by rw [dps_len dx]; exact q)
/-- a beginning of a list, by data -/
theorem cut_dl {ds : List PyData} {k : Nat} (h : Dp K H v (.list ds)) (hk : k ≤ ds.length) (q : ∀ p H', Same H H' → H p = none → Dp K H' (.ref p) (.list (ds.take k)) → Q (.ref p) H') : rSlU K v none (some (k : Int)) H Q := by
  obtain ⟨a, xs, rfl, sx, dx⟩ := dp_lst h
  have l := dps_len dx
  exact sl_to sx (by omega) fun p H' s np ep => q p H' s np (.lst (.inl (.inl ep)) (dpsSame s (dps_take k dx)))
theorem eq_dl {ds : List PyData} (h : Dp K H v (.list ds)) (g : Dp K H w (.list ds)) (l : layD n (.list ds)) (hn : n ≤ 64) (q : Q (.bl true) H) : rEqU K v w H Q := by
  obtain ⟨a, xs, rfl, _, _⟩ := dp_lst h
  exact eq_same h g l hn q
theorem ne_dl {ds : List PyData} (h : Dp K H v (.list ds)) (g : Dp K H w (.list ds)) (l : layD n (.list ds)) (hn : n ≤ 64) (q : Q (.bl false) H) : rNeU K v w H Q := by
  obtain ⟨a, xs, rfl, _, _⟩ := dp_lst h
  exact ne_same h g l hn q
theorem dps_filter (p : PyData → Bool) : ∀ {xs : List V} {ds : List PyData}, DpAll K H xs ds → DpAll K H (((xs.zip ds).filter fun q => p q.2).map fun q => q.1) (ds.filter p)
  | _, _, .nil => .nil
  | _, _, .cons (v := x) (d := d) h t => by
    have ih := dps_filter p t
    rw [List.zip_cons_cons]
    by_cases c : p d = true
    · rw [List.filter_cons_of_pos (by exact c), List.filter_cons_of_pos c]
      exact .cons h ih
    · rw [List.filter_cons_of_neg (by exact c), List.filter_cons_of_neg c]
      exact ih
theorem dlL_same {H' : Hp} {a : Addr} {xs : List V} (s : Same H H') (h : SqL K H a xs) : SqL K H' a xs := by
  rcases h with (h | ⟨o, h⟩) | h
  · exact .inl (.inl (s _ _ h))
  · exact .inl (.inr ⟨o, s _ _ h⟩)
  · exact .inr h
/-- those of a list that pass a test, by data -/
theorem lcFil {σ : L2.St} {g : TG} {tt : TT} {te : TE} {vs : List Nat} {ds : List PyData} (hv : Dp K H v (.list ds)) (few : ds.length < sizeLine) (p : PyData → Bool)
    (step : ∀ (i : Nat) (x : V) (d : PyData) (H' : Hp) (N : Bool → V → Hp → Prop), ds[i]? = some d → Same H H' → Dp K H' x d → (∀ H4, Same H' H4 → p d = false → N false .non H4) → (∀ H4, Same H' H4 → p d = true → N true x H4) →
      g x (wipe σ vs) H' fun σ2 H2 => wipe σ2 vs = wipe σ vs ∧ tt σ2 H2 fun b H3 => if b = true then te σ2 H3 fun y H4 => N true y H4 else N false .non H3)
    (hd : ∀ D H', H D = none → Same H H' → Dp K H' (.ref D) (.list (ds.filter p)) → Q (.ref D) H') : LcSeqL K g tt te vs σ Q v H := by
  obtain ⟨a, xs, rfl, sx, dx⟩ := dp_lst hv
  have l := dps_len dx
  refine lcLf (xs := xs) (fun H' s => dlL_same s sx) (by omega) (fun i => ((((xs.zip ds).take i).filter fun q => p q.2).map fun q => q.1)) rfl (fun i => by
    rw [List.length_map]
    refine Nat.le_trans (List.length_filter_le _ _) ?_
    rw [List.length_take]
    omega) ?_ ?_
  · intro i x H' N hx s nf nt
    obtain ⟨d, hd', hx'⟩ := dps_get dx hx
    have ez : (xs.zip ds)[i]? = some (x, d) := by
      rw [List.getElem?_zip_eq_some]
      exact ⟨hx, hd'⟩
    have more : ((((xs.zip ds).take (i + 1)).filter fun q => p q.2).map fun q => q.1) = ((((xs.zip ds).take i).filter fun q => p q.2).map fun q => q.1) ++ (if p d = true then [x] else []) := by
      rw [List.take_succ, ez, List.filter_append, List.map_append]
      congr 1
      by_cases c : p d = true
      · simp [c]
      · simp [c]
    refine step i x d H' N hd' s (dpSame s hx') (fun H4 s4 e => nf H4 s4 ?_) fun H4 s4 e => nt x H4 s4 ?_
    · rw [more, if_neg (by rw [e]; decide), List.append_nil]
    · rw [more, if_pos e]
  · intro D H' nD s e
    have e0 : (xs.zip ds).take xs.length = xs.zip ds := List.take_of_length_le (by rw [List.length_zip]; omega)
    rw [e0] at e
    exact hd D H' nD s (.lst (.inl (.inl e)) (dpsSame s (dps_filter p dx)))
/-- the same of a tuple -/
theorem lcFilT {σ : L2.St} {g : TG} {tt : TT} {te : TE} {vs : List Nat} {ds : List PyData} (hv : Dp K H v (.tuple ds)) (few : ds.length < sizeLine) (p : PyData → Bool)
    (step : ∀ (i : Nat) (x : V) (d : PyData) (H' : Hp) (N : Bool → V → Hp → Prop), ds[i]? = some d → Same H H' → Dp K H' x d → (∀ H4, Same H' H4 → p d = false → N false .non H4) → (∀ H4, Same H' H4 → p d = true → N true x H4) →
      g x (wipe σ vs) H' fun σ2 H2 => wipe σ2 vs = wipe σ vs ∧ tt σ2 H2 fun b H3 => if b = true then te σ2 H3 fun y H4 => N true y H4 else N false .non H3)
    (hd : ∀ D H', H D = none → Same H H' → Dp K H' (.ref D) (.list (ds.filter p)) → Q (.ref D) H') : LcSeqT K g tt te vs σ Q v H := by
  obtain ⟨a, xs, rfl, sx, dx⟩ := dp_tup hv
  have l := dps_len dx
  refine lcTf (xs := xs) (fun H' s => same_seqT s sx) (by omega) (fun i => ((((xs.zip ds).take i).filter fun q => p q.2).map fun q => q.1)) rfl (fun i => by
    rw [List.length_map]
    refine Nat.le_trans (List.length_filter_le _ _) ?_
    rw [List.length_take]
    omega) ?_ ?_
  · intro i x H' N hx s nf nt
    obtain ⟨d, hd', hx'⟩ := dps_get dx hx
    have ez : (xs.zip ds)[i]? = some (x, d) := by
      rw [List.getElem?_zip_eq_some]
      exact ⟨hx, hd'⟩
    have more : ((((xs.zip ds).take (i + 1)).filter fun q => p q.2).map fun q => q.1) = ((((xs.zip ds).take i).filter fun q => p q.2).map fun q => q.1) ++ (if p d = true then [x] else []) := by
      rw [List.take_succ, ez, List.filter_append, List.map_append]
      congr 1
      by_cases c : p d = true
      · simp [c]
      · simp [c]
    refine step i x d H' N hd' s (dpSame s hx') (fun H4 s4 e => nf H4 s4 ?_) fun H4 s4 e => nt x H4 s4 ?_
    · rw [more, if_neg (by rw [e]; decide), List.append_nil]
    · rw [more, if_pos e]
  · intro D H' nD s e
    have e0 : (xs.zip ds).take xs.length = xs.zip ds := List.take_of_length_le (by rw [List.length_zip]; omega)
    rw [e0] at e
    exact hd D H' nD s (.lst (.inl (.inl e)) (dpsSame s (dps_filter p dx)))
/-- a list held against none -/
theorem eq_nil {ds : List PyData} (h : Dp K H v (.list ds)) (g : Dp K H w (.list [])) (l : layD n (.list ds)) (hn : n ≤ 64) (q : Q (.bl ds.isEmpty) H) : rEqU K v w H Q := by
  obtain ⟨a, xs, rfl, _, _⟩ := dp_lst h
  rw [rEqU_r]
  refine ⟨_, _, h, g, l.shaped hn, layD.shaped (n := 1) (fun _ m => nomatch m) (by decide), ?_⟩
  have e : PyData.eqv (.list ds) (.list []) = ds.isEmpty := by cases ds <;> simp [PyData.eqv, PyData.eqvAll]
  rw [e]
  exact q
theorem in_strs {z : Str} {ws : List Str} {p : Addr} (h : SqL K H p (ws.map V.str) ∨ SqT K H p (ws.map V.str)) (q : Q (.bl (decide (z ∈ ws))) H) : rInU K (.str z) (.ref p) H Q := by
  refine .inl ⟨p, _, rfl, h, rfl, flat_all _, ?_⟩
  have e : (ws.any fun x => x == z) = decide (z ∈ ws) := by
    rw [Bool.eq_iff_iff, List.any_eq_true, decide_eq_true_eq]
    exact ⟨fun ⟨x, h1, h2⟩ => by rw [← beq_iff_eq.mp h2]; exact h1, fun h => ⟨z, h, by simp⟩⟩
  rw [if_neg Bool.false_ne_true, inV_strs, e]
  exact q
/-- no list and no dictionary -/
def Hard : HO → Prop
  | .lst _ => False
  | .dK _ => False
  | _ => True
/-- all that is no list and no dictionary stands -/
def NLs (H H' : Hp) : Prop := ∀ b o, H b = some o → Hard o → H' b = some o
theorem NLs.refl (H : Hp) : NLs H H := fun _ _ e _ => e
theorem NLs.trans {H H1 H2 : Hp} (a : NLs H H1) (b : NLs H1 H2) : NLs H H2 := fun c o e n => b c o (a c o e n) n
theorem NLs.of {H H' : Hp} (s : Same H H') : NLs H H' := fun b o e _ => s b o e
theorem NLs.put {H : Hp} {l : Addr} {xs ys : List V} (e : H l = some (.lst xs)) : NLs H (upd H l (.lst ys)) := fun b o e2 nl => by
  rw [upd_ne fun c => by
    rw [c, e] at e2
    cases e2
    exact nl]
  exact e2
theorem NLs.putD {H : Hp} {l : Addr} {o2 : HO} {xs : List (Key × V)} (e : H l = some (.dK xs)) : NLs H (upd H l o2) := fun b o e2 nl => by
  rw [upd_ne fun c => by
    rw [c, e] at e2
    cases e2
    exact nl]
  exact e2
theorem sqT_nls {H H' : Hp} {a : Addr} {xs : List V} (h : SqT K H a xs) (k : NLs H H') : SqT K H' a xs := by
  rcases h with (h | ⟨o, h⟩) | h
  · exact .inl (.inl (k _ _ h trivial))
  · exact .inl (.inr ⟨o, k _ _ h trivial⟩)
  · exact .inr h
theorem dp_nls {H H' : Hp} (k : NLs H H') : ∀ (n : Nat) {v : V} {d : PyData}, tpD n d → Dp K H v d → Dp K H' v d
  | 0, _, _, t, h => dp_leaf t h
  | n + 1, v, .tuple ds, t, h => by
    obtain ⟨a, xs, rfl, s, dx⟩ := dp_tup h
    exact .tup (sqT_nls s k) (dps_map dx fun v d m h => dp_nls k n (t d m) h)
  | n + 1, v, .list ds, t, h => dp_leaf t h
  | n + 1, v, .none, t, h => dp_leaf t h
  | n + 1, v, .bool _, t, h => dp_leaf t h
  | n + 1, v, .int _, t, h => dp_leaf t h
  | n + 1, v, .str _, t, h => dp_leaf t h
  | n + 1, v, .dict _, t, h => dp_leaf t h
theorem lcMapT {σ : L2.St} {g : TG} {te : TE} {vs : List Nat} {ds : List PyData} (m : Nat) (F : PyData → PyData) (hv : Dp K H v (.tuple ds)) (few : ds.length < sizeLine) (tp : ∀ d ∈ ds, tpD m (F d))
    (step : ∀ (i : Nat) (x : V) (d : PyData) (H' : Hp) (N : VK), ds[i]? = some d → Same H H' → Dp K H' x d → (∀ y H4, Same H' H4 → Dp K H4 y (F d) → N y H4) → g x (wipe σ vs) H' fun σ2 H2 => wipe σ2 vs = wipe σ vs ∧ te σ2 H2 N)
    (hd : ∀ D H' ys, H D = none → Same H H' → H' D = some (.lst ys) → DpAll K H' ys (ds.map F) → Q (.ref D) H') : LcSeqT K g tYes te vs σ Q v H := by
  obtain ⟨a, xs, rfl, sx, dx⟩ := dp_tup hv
  have l := dps_len dx
  refine ⟨a, rfl, ⟨xs, sx⟩, ?_⟩
  refine lcAnyIn walk_tup (fun D i H' => Same H H' ∧ ∃ ys, H' D = some (.lst ys) ∧ ys.length = i ∧ DpAll K H' ys ((ds.take i).map F)) (fun D nD => ⟨Same.put (Same.refl H) nD, [], upd_same, rfl, .nil⟩) (fun D i H' _ q => same_seqT q.1 sx) ?_ ?_
  · rintro D nD i x H0 H1 hi ⟨k1, ys, e1, ly, dy⟩ y
    obtain ⟨rfl, hx⟩ := y
    obtain ⟨d, hd', hx'⟩ := dps_get dx hx
    have md := List.mem_of_getElem? hd'
    unfold lcTurn
    refine step i x d H1 _ hd' k1 (dpSame k1 hx') fun y H4 s4 d4 => ?_
    have e4 := s4 _ _ e1
    have k5 : NLs H4 (upd H4 D (.lst (ys ++ [y]))) := NLs.put e4
    refine ⟨ys, e4, by omega, fun b o e => ?_, ys ++ [y], upd_same, by rw [List.length_append, List.length_singleton, ly], ?_⟩
    · rw [upd_ne (ne_of_none e nD)]
      exact s4 _ _ (k1 _ _ e)
    · rw [List.take_succ, hd', List.map_append]
      refine dps_append (dps_map (dpsSame s4 dy) fun v d k h => dp_nls k5 m ?_ h) (.cons (dp_nls k5 m (tp d md) d4) .nil)
      obtain ⟨d0, m0, rfl⟩ := List.mem_map.mp k
      exact tp d0 (List.mem_of_mem_take m0)
  · rintro D nD H' ⟨k, ys, e, ly, dy⟩
    rw [l, List.take_length] at dy
    exact hd D H' ys nD k e dy
theorem lcMapL {σ : L2.St} {g : TG} {te : TE} {vs : List Nat} {ds : List PyData} (m : Nat) (F : PyData → PyData) (hv : Dp K H v (.list ds)) (few : ds.length < sizeLine) (tp : ∀ d ∈ ds, tpD m (F d))
    (step : ∀ (i : Nat) (x : V) (d : PyData) (H' : Hp) (N : VK), ds[i]? = some d → Same H H' → Dp K H' x d → (∀ y H4, Same H' H4 → Dp K H4 y (F d) → N y H4) → g x (wipe σ vs) H' fun σ2 H2 => wipe σ2 vs = wipe σ vs ∧ te σ2 H2 N)
    (hd : ∀ D H' ys, H D = none → Same H H' → H' D = some (.lst ys) → DpAll K H' ys (ds.map F) → Q (.ref D) H') : LcSeqL K g tYes te vs σ Q v H := by
  obtain ⟨a, xs, rfl, sx, dx⟩ := dp_lst hv
  have l := dps_len dx
  refine ⟨a, rfl, ⟨xs, sx⟩, ?_⟩
  refine lcAnyIn walk_list (fun D i H' => Same H H' ∧ ∃ ys, H' D = some (.lst ys) ∧ ys.length = i ∧ DpAll K H' ys ((ds.take i).map F)) (fun D nD => ⟨Same.put (Same.refl H) nD, [], upd_same, rfl, .nil⟩) (fun D i H' _ q => dlL_same q.1 sx) ?_ ?_
  · rintro D nD i x H0 H1 hi ⟨k1, ys, e1, ly, dy⟩ y
    obtain ⟨rfl, hx⟩ := y
    obtain ⟨d, hd', hx'⟩ := dps_get dx hx
    have md := List.mem_of_getElem? hd'
    unfold lcTurn
    refine step i x d H1 _ hd' k1 (dpSame k1 hx') fun y H4 s4 d4 => ?_
    have e4 := s4 _ _ e1
    have k5 : NLs H4 (upd H4 D (.lst (ys ++ [y]))) := NLs.put e4
    refine ⟨ys, e4, by omega, fun b o e => ?_, ys ++ [y], upd_same, by rw [List.length_append, List.length_singleton, ly], ?_⟩
    · rw [upd_ne (ne_of_none e nD)]
      exact s4 _ _ (k1 _ _ e)
    · rw [List.take_succ, hd', List.map_append]
      refine dps_append (dps_map (dpsSame s4 dy) fun v d k h => dp_nls k5 m ?_ h) (.cons (dp_nls k5 m (tp d md) d4) .nil)
      obtain ⟨d0, m0, rfl⟩ := List.mem_map.mp k
      exact tp d0 (List.mem_of_mem_take m0)
  · rintro D nD H' ⟨k, ys, e, ly, dy⟩
    rw [l, List.take_length] at dy
    exact hd D H' ys nD k e dy
/-- tuples of plain things stand -/
theorem fs_tp {H0 : Hp} (m : Nat) (t : tpD m d) (h : Dp K H v d) : Fs K H0 H v d := fun q H' z k => dp_ts (tps_of k fun b y => (z b y).2).t m t h
theorem fsAll_tp {H0 : Hp} (m : Nat) : ∀ {ys : List V} {ds : List PyData}, DpAll K H ys ds → (∀ d ∈ ds, tpD m d) → FsAll K H0 H ys ds
  | _, _, .nil, _ => .nil
  | _, _, .cons h t, g => .cons (fs_tp m (g _ List.mem_cons_self) h) (fsAll_tp m t fun d k => g d (List.mem_cons_of_mem _ k))
theorem dps_ints_eq : ∀ {ys : List V} {L : List Int}, DpAll K H ys (L.map PyData.int) → ys = L.map V.int
  | [], [], _ => rfl
  | _ :: _, [], h => nomatch h
  | [], _ :: _, h => nomatch h
  | y :: ys, k :: L, .cons h t => by
    cases dp_int h
    rw [dps_ints_eq t]
    rfl
/-- two tuples put together, neither of them empty -/
theorem cat_fs {H0 : Hp} {a b : Addr} {xs ys : List V} {r1 r2 : List PyData} (ha : H a = some (.tup xs)) (hb : SqT K H b ys) (n1 : xs ≠ []) (n2 : ys ≠ []) (fx : FsAll K H0 H xs r1) (fy : FsAll K H0 H ys r2) (l : xs.length + ys.length ≤ sizeLine)
    (q : ∀ p H', Same H H' → Fs K H0 H' (.ref p) (.tuple (r1 ++ r2)) → Q (.ref p) H') : rAddU K (.ref a) (.ref b) H Q := by
  refine .inr (.inr ⟨a, b, xs, ys, rfl, rfl, .inl (.inl ha), hb, l, fun e => absurd e n1, fun _ e => absurd e n2, fun _ _ p n => ?_⟩)
  have k : Same H (upd H p (.tup (xs ++ ys))) := Same.put (Same.refl H) n
  refine q p _ k (fs_tup upd_same ?_)
  have go : ∀ {as bs : List V} {ds es : List PyData}, FsAll K H0 (upd H p (.tup (xs ++ ys))) as ds → FsAll K H0 (upd H p (.tup (xs ++ ys))) bs es → FsAll K H0 (upd H p (.tup (xs ++ ys))) (as ++ bs) (ds ++ es) := fun {as bs ds es} h g => by
    induction h with
    | nil => exact g
    | cons h _ ih => exact .cons h ih
  exact go (fx.mono fun _ _ z => z.same k) (fy.mono fun _ _ z => z.same k)
theorem sl_take {l : Addr} {xs : List V} {k : Nat} (h : SqL K H l xs) (q : ∀ p H', Same H H' → H p = none → H' p = some (.lst (xs.take k)) → Q (.ref p) H') : rSlU K (.ref l) none (some (k : Int)) H Q :=
  .inl ⟨l, xs, rfl, h, fun p np => by
    have e : cutV xs none (some (k : Int)) = xs.take k := by
      unfold cutV
      rw [HT.sIx_none, HT.sIx_nat]
      by_cases c : k ≤ xs.length
      · rw [Nat.min_eq_left c]
        simp
      · rw [Nat.min_eq_right (by omega), List.take_of_length_le (show xs.length ≤ k by omega)]
        simp
    rw [e]
    exact q p _ (Same.put (Same.refl H) np) np upd_same⟩
theorem dps_intsU {H : Hp} : ∀ ns : List Int, DpAll K H (ns.map V.int) (ns.map PyData.int)
  | [] => .nil
  | n :: r => .cons (.int n) (dps_intsU r)
end
end Ld

set_option Elab.async false
set_option linter.all false
set_option maxRecDepth 100000
set_option maxHeartbeats 4000000
/-! Deeds as texts. -/
namespace Ld
open PySem PySem.Spec PyProof.Rows L2
theorem name_okN {z : Str} (h : isNameS z = true) : PyData.strOk z = true := by
  unfold isNameS at h
  simp only [Bool.and_eq_true, List.all_eq_true, decide_eq_true_eq] at h
  unfold PyData.strOk
  rw [Array.all_eq_true_iff_forall_mem]
  intro c m
  have l : ∀ c ∈ lettersS.cps.toList, c < 0x110000 := by decide +kernel
  exact decide_eq_true (l c (h.2 c (Array.mem_toList_iff.mpr m)))
inductive DeedN : PyData → Prop
  | letter : DeedN (.tuple [.str "letter"])
  | answer : DeedN (.tuple [.str "answer"])
  | day : DeedN (.tuple [.str "day"])
  | hand (z : Str) (h : isNameS z = true) : DeedN (.tuple [.str "hand", .str z])
  | set (z : Str) (h : z ∈ statusesS) : DeedN (.tuple [.str "set", .str z])
theorem fn_status {d : PyData} : fitsKindN "status" d = isWordD statusesS d := if_pos rfl
theorem fn_desk {d : PyData} : fitsKindN "desk" d = isNameD d := by
  unfold fitsKindN
  rw [if_neg (by decide), if_pos rfl]
theorem zipN {k : Str} {rest : List PyData} (l : rest.length = 1) (h : ((rest.zip [k]).all fun p => fitsKindN p.2 p.1) = true) : ∃ x, rest = [x] ∧ fitsKindN k x = true := by
  match rest, l with
  | [x], _ =>
    refine ⟨x, rfl, ?_⟩
    simpa using h
theorem form_ofN {fs : List (List Str)} {d : PyData} (h : hasFormN fs d = true) : ∃ w rest f, d = .tuple (.str w :: rest) ∧ f ∈ fs ∧ f.head? = some w ∧ f.tail.length = rest.length ∧ ((rest.zip f.tail).all fun p => fitsKindN p.2 p.1) = true := by
  unfold hasFormN at h
  split at h
  · rename_i w rest
    split at h
    · rename_i f hq
      have m := List.mem_of_find?_eq_some hq
      have p := List.find?_some hq
      unfold formIs at p
      simp only [Bool.and_eq_true, decide_eq_true_eq] at p
      exact ⟨w, rest, f, rfl, m, p.1, p.2, h⟩
    · cases h
  · cases h
theorem nameD_of {d : PyData} (h : isNameD d = true) : ∃ z, d = .str z ∧ isNameS z = true := by
  cases d <;> first | exact Bool.noConfusion h | exact ⟨_, rfl, h⟩
theorem deedN_of {d : PyData} (h : isDeedN d = true) : DeedN d := by
  obtain ⟨w, rest, f, rfl, m, e, l, a⟩ := form_ofN h
  simp only [deedForms, List.mem_cons, List.not_mem_nil, or_false] at m
  rcases m with rfl | rfl | rfl | rfl | rfl
  · cases e
    cases zip0 l.symm
    exact .letter
  · cases e
    cases zip0 l.symm
    exact .answer
  · cases e
    cases zip0 l.symm
    exact .day
  · cases e
    obtain ⟨x, rfl, h1⟩ := zipN l.symm a
    obtain ⟨z, rfl, hz⟩ := nameD_of (fn_desk ▸ h1)
    exact .hand z hz
  · cases e
    obtain ⟨x, rfl, h1⟩ := zipN l.symm a
    obtain ⟨z, rfl, hz⟩ := word_of (ws := statusesS) (fn_status ▸ h1)
    exact .set z hz
theorem DeedN.deed {d : PyData} (h : DeedN d) : isDeedN d = true := by
  cases h with
  | letter => rfl
  | answer => rfl
  | day => rfl
  | hand z h =>
    show (fitsKindN "desk" (.str z) && true) = true
    rw [fn_desk, Bool.and_true]
    exact h
  | set z h =>
    show (fitsKindN "status" (.str z) && true) = true
    rw [fn_status, Bool.and_true]
    unfold isWordD
    simpa using h
/-- a deed's words -/
def wordsD : PyData → List Str
  | .tuple ds => strsOf ds
  | _ => []
def lineD (d : PyData) : Str := Txt.join " " (wordsD d)
def deedsS (ds : List PyData) : Str := Txt.join "\n" (ds.map lineD)
theorem name_len {z : Str} (h : isNameS z = true) : 1 ≤ z.length ∧ z.length ≤ 8 := by
  unfold isNameS at h
  simp only [Bool.and_eq_true, decide_eq_true_eq] at h
  omega
theorem stat_len : ∀ z ∈ statusesS, z.length ≤ 8 := by decide +kernel
theorem DeedN.words {d : PyData} (h : DeedN d) : d = .tuple ((wordsD d).map PyData.str) ∧ (wordsD d).length ≤ 2 ∧ ∀ w ∈ wordsD d, w.length ≤ 8 := by
  cases h with
  | letter => exact ⟨rfl, by decide, by decide +kernel⟩
  | answer => exact ⟨rfl, by decide, by decide +kernel⟩
  | day => exact ⟨rfl, by decide, by decide +kernel⟩
  | hand z h =>
    refine ⟨rfl, by show [("hand" : Str), z].length ≤ 2; simp, fun w m => ?_⟩
    rcases List.mem_cons.mp m with rfl | m
    · decide +kernel
    · rcases List.mem_cons.mp m with rfl | m
      · exact (name_len h).2
      · cases m
  | set z h =>
    refine ⟨rfl, by show [("set" : Str), z].length ≤ 2; simp, fun w m => ?_⟩
    rcases List.mem_cons.mp m with rfl | m
    · decide +kernel
    · rcases List.mem_cons.mp m with rfl | m
      · exact stat_len _ h
      · cases m
theorem DeedN.ok {d : PyData} (h : DeedN d) : okFormN d := by
  obtain ⟨e, l, a⟩ := h.words
  intro ds e2
  rw [e] at e2
  injection e2 with e2
  subst e2
  refine ⟨by rw [List.length_map]; omega, fun x m => ?_⟩
  obtain ⟨z, mz, rfl⟩ := List.mem_map.mp m
  show z.length ≤ sizeLine
  have := a z mz
  rw [sizeLine_eq]
  omega
theorem firstWrongN_good : ∀ (ds : List PyData) (i : Nat), (∀ d ∈ ds, DeedN d) → firstWrongN i ds = none
  | [], _, _ => rfl
  | d :: r, i, h => by
    show (if isDeedN d = true then firstWrongN (i + 1) r else some i) = _
    rw [if_pos (h d List.mem_cons_self).deed]
    exact firstWrongN_good r (i + 1) fun e m => h e (List.mem_cons_of_mem _ m)
theorem firstWrongN_all : ∀ (ds : List PyData) (i : Nat), firstWrongN i ds = none → ∀ d ∈ ds, DeedN d
  | [], _, _ => fun _ m => nomatch m
  | d :: r, i, h => by
    unfold firstWrongN at h
    split at h
    · rename_i c
      intro e m
      rcases List.mem_cons.mp m with rfl | m
      · exact deedN_of c
      · exact firstWrongN_all r (i + 1) h e m
    · cases h
theorem sum_le {m : Nat} : ∀ ys : List Str, (∀ y ∈ ys, y.length ≤ m) → (ys.map (·.length)).sum ≤ ys.length * m
  | [], _ => Nat.zero_le _
  | y :: r, h => by
    have a := h y List.mem_cons_self
    have b := sum_le r fun z mz => h z (List.mem_cons_of_mem _ mz)
    simp only [List.map_cons, List.sum_cons, List.length_cons, Nat.succ_mul]
    omega
theorem join_le {m k : Nat} {s : Str} {ys : List Str} (h : ∀ y ∈ ys, y.length ≤ m) (l : ys.length ≤ k) : (Txt.join s ys).length ≤ k * (m + s.length) := by
  rw [TL.join_eq]
  have a := StrLaws.join_length_le s ys
  have b := sum_le ys h
  have c : ys.length * (m + s.length) ≤ k * (m + s.length) := Nat.mul_le_mul_right _ l
  rw [Nat.mul_add] at c
  omega
theorem DeedN.line {d : PyData} (h : DeedN d) : (lineD d).length ≤ 18 := by
  obtain ⟨_, l, a⟩ := h.words
  have := join_le (s := " ") a l
  have e : (" " : Str).length = 1 := by decide +kernel
  rw [e] at this
  exact this
theorem vals_strs {K : PySem.W.Frag} {H : Hp} : ∀ {vs : List V} {zs : List Str}, DpAll K H vs (zs.map PyData.str) → vs = zs.map V.str
  | [], [], _ => rfl
  | _, z :: r, h => by
    cases h with
    | cons h t =>
      rw [vals_strs t]
      cases dp_str h
      rfl
theorem one_join (s a : Str) : Txt.join s [a] = a := by rw [TL.join_eq]; rfl
theorem two_join (s a b : Str) : Txt.join s [a, b] = a ++ s ++ b := by rw [TL.join_eq]; rfl
theorem app_len (a b : Str) : (a ++ b).length = a.length + b.length := strLen_append a b
theorem strs_mapX : ∀ zs : List Str, strsOf (zs.map PyData.str) = zs
  | [] => rfl
  | z :: r => by
    show z :: strsOf (r.map PyData.str) = z :: r
    rw [strs_mapX r]
end Ld

set_option Elab.async false
set_option linter.all false
set_option maxRecDepth 100000
set_option maxHeartbeats 4000000
/-! Books as texts. -/
namespace Ld
open PySem PySem.Spec PyProof.Rows L2
/-- x is True, x is False: of bools, ints, texts -/
def rIsB2 : R2 := fun x y H Q => ∃ b : Bool, y = .bl b ∧ ((∃ a : Bool, x = .bl a ∧ Q (.bl (decide (a = b))) H) ∨ (((∃ i : Int, x = .int i) ∨ ∃ z : Str, x = .str z) ∧ Q (.bl false) H))
theorem op_isB2 {X : Cx} : OpR X (compareOp .Is) rIsB2 := by
  intro pins t τ G x y v u R I rx ry g
  obtain ⟨b, rfl, ⟨a, rfl, q⟩ | ⟨h, q⟩⟩ := g
  · exact op_is_bl pins t τ G _ _ v u R I rx ry ⟨a, b, rfl, rfl, q⟩
  · cases (show u = Value.bool b from ry)
    rcases h with ⟨i, rfl⟩ | ⟨z, rfl⟩
    · obtain ⟨tk, rfl⟩ := (show ∃ tk, v = Value.int i tk from rx)
      exact wpAny_is_other rfl (fun z => nomatch z) ⟨.bl false, G, I, rfl, q⟩
    · obtain ⟨tk, rfl⟩ := (show ∃ tk, v = Value.str z tk from rx)
      exact wpAny_is_other rfl (fun z => nomatch z) ⟨.bl false, G, I, rfl, q⟩
/-- str(x), x an int or a text -/
def rStrU : List V → Hp → VK → Prop := fun xs H Q => (∃ i : Int, xs = [.int i] ∧ i.natAbs.log2 < 1920 ∧ Q (.str (toString i)) H) ∨ ∃ a : Str, xs = [.str a] ∧ Q (.str a) H
theorem call_strU {X : Cx} : CallR X (.type "str") rStrU := callOr call_str_int SkE.call_str_str
/-! ### the texts -/
def testS : PyData → Str
  | .tuple [.str k, .int n] => Txt.join " " [k, (toString n : Str)]
  | .tuple [.str k, .bool w] => if w = false then ("not " : Str) ++ Txt.join " " [k] else Txt.join " " [k]
  | .tuple [.str k, .str z, .bool w] => if w = false then ("not " : Str) ++ Txt.join " " [k, z] else Txt.join " " [k, z]
  | _ => ""
def actS : PyData → Str
  | .tuple [.str k, .bool w] => if w = false then ("un" : Str) ++ Txt.join " " [k] else Txt.join " " [k]
  | .tuple [.str k] => Txt.join " " [k]
  | .tuple [.str k, .str z] => Txt.join " " [k, z]
  | _ => ""
def ruleS : PyData → Str
  | .tuple [.str ev, .tuple ts, .tuple as] => (if ts.isEmpty = true then ("at " : Str) ++ ev else ("at " : Str) ++ ev ++ (" if " : Str) ++ Txt.join ", " (ts.map testS)) ++ (" do " : Str) ++ Txt.join ", " (as.map actS)
  | _ => ""
def bookS (dsk : List Str) (rs : List PyData) : Str := Txt.join "\n" (Txt.join " " dsk :: rs.map ruleS)
structure TestB (d : PyData) : Prop where
  ex : ∃ dsk, TestIs dsk d ∧ ∀ z ∈ dsk, isNameS z = true
structure ActB (d : PyData) : Prop where
  ex : ∃ dsk, ActIs dsk d ∧ ∀ z ∈ dsk, isNameS z = true
theorem day_len : ∀ n : Nat, n ≤ 30 → (toString ((n : Nat) : Int) : Str).length ≤ 2 := by
  intro n h
  have := (by decide +kernel : ∀ n ∈ List.range 31, (toString ((n : Nat) : Int) : Str).length ≤ 2)
  exact this n (List.mem_range.mpr (by omega))
theorem two_len {a b : Str} {m : Nat} (ha : a.length ≤ m) (hb : b.length ≤ m) : (Txt.join " " [a, b]).length ≤ 2 * (m + 1) := by
  have e : (" " : Str).length = 1 := by decide +kernel
  have := join_le (s := " ") (ys := [a, b]) (m := m) (k := 2) (by intro y my; simp only [List.mem_cons, List.not_mem_nil, or_false] at my; rcases my with rfl | rfl <;> assumption) (by simp)
  rw [e] at this
  exact this
theorem TestB.len {d : PyData} (hh : TestB d) : (testS d).length ≤ 24 := by
  obtain ⟨dsk, h, sh⟩ := hh.ex
  clear hh
  have en : ("not " : Str).length = 4 := by decide +kernel
  have lk : ∀ k : Str, k ∈ ([("status" : Str), "desk", "answered", "marked", "days"] : List Str) → k.length ≤ 8 := by decide +kernel
  have fin : ∀ (t : Str) (b : Bool), t.length ≤ 18 → (if b = false then ("not " : Str) ++ t else t).length ≤ 24 := fun t b l => by
    split
    · rw [app_len, en]; omega
    · omega
  cases h with
  | status z b h => exact fin _ b (two_len (lk _ (by decide)) (stat_len z h))
  | desk z b h => exact fin _ b (two_len (lk _ (by decide)) (name_len (sh z h)).2)
  | answered b => exact fin _ b (by rw [one_join]; exact Nat.le_trans (lk _ (by decide)) (by decide))
  | marked b => exact fin _ b (by rw [one_join]; exact Nat.le_trans (lk _ (by decide)) (by decide))
  | days n h g =>
    obtain ⟨m, rfl⟩ := Int.eq_ofNat_of_zero_le (show 0 ≤ n by omega)
    have := two_len (lk "days" (by decide)) (Nat.le_trans (day_len m (by omega)) (by decide))
    exact Nat.le_trans this (by decide)
theorem ActB.len {d : PyData} (hh : ActB d) : (actS d).length ≤ 24 := by
  obtain ⟨dsk, h, sh⟩ := hh.ex
  clear hh
  have lk : ∀ k : Str, k ∈ ([("status" : Str), "desk", "reply", "mark", "stop"] : List Str) → k.length ≤ 8 := by decide +kernel
  cases h with
  | status z h => exact Nat.le_trans (two_len (lk _ (by decide)) (stat_len z h)) (by decide)
  | desk z h => exact Nat.le_trans (two_len (lk _ (by decide)) (name_len (sh z h)).2) (by decide)
  | reply => show (Txt.join " " [("reply" : Str)]).length ≤ 24; rw [one_join]; decide +kernel
  | stop => show (Txt.join " " [("stop" : Str)]).length ≤ 24; rw [one_join]; decide +kernel
  | mark b =>
    show (if b = false then ("un" : Str) ++ Txt.join " " [("mark" : Str)] else Txt.join " " [("mark" : Str)]).length ≤ 24
    rw [one_join]
    cases b <;> decide +kernel
structure RuleB (d : PyData) : Prop where
  ex : ∃ (ev : Str) (ts as : List PyData), d = .tuple [.str ev, .tuple ts, .tuple as] ∧ ev ∈ eventsS ∧ ts.length ≤ 4 ∧ as.length ≤ 4 ∧ (∀ t ∈ ts, TestB t) ∧ ∀ a ∈ as, ActB a
theorem ev_len : ∀ z ∈ eventsS, z.length ≤ 8 := by decide +kernel
theorem RuleB.len {d : PyData} (h : RuleB d) : (ruleS d).length ≤ 300 := by
  obtain ⟨ev, ts, as, rfl, he, lt, la, ht, ha⟩ := h.ex
  have e1 : ("at " : Str).length = 3 := by decide +kernel
  have e2 : (" if " : Str).length = 4 := by decide +kernel
  have e3 : (" do " : Str).length = 4 := by decide +kernel
  have e4 : (", " : Str).length = 2 := by decide +kernel
  have a := join_le (s := ", ") (ys := ts.map testS) (m := 24) (k := 4) (fun y my => by obtain ⟨t, mt, rfl⟩ := List.mem_map.mp my; exact (ht t mt).len) (by rw [List.length_map]; omega)
  have b := join_le (s := ", ") (ys := as.map actS) (m := 24) (k := 4) (fun y my => by obtain ⟨t, mt, rfl⟩ := List.mem_map.mp my; exact (ha t mt).len) (by rw [List.length_map]; omega)
  have c := ev_len ev he
  rw [e4] at a b
  show ((if ts.isEmpty = true then ("at " : Str) ++ ev else ("at " : Str) ++ ev ++ (" if " : Str) ++ Txt.join ", " (ts.map testS)) ++ (" do " : Str) ++ Txt.join ", " (as.map actS)).length ≤ 300
  rw [app_len, app_len, e3]
  split
  · rw [app_len, e1]; omega
  · rw [app_len, app_len, app_len, e1, e2]; omega
theorem rule_B {dsk : List Str} {d : PyData} (sh : ∀ z ∈ dsk, isNameS z = true) (h : isRuleD dsk d = true) : RuleB d := by
  unfold isRuleD at h
  split at h
  · rename_i ev ts as
    simp only [Bool.and_eq_true, decide_eq_true_eq, List.all_eq_true] at h
    obtain ⟨⟨⟨⟨⟨h1, h2⟩, h3⟩, _⟩, h5⟩, h6⟩ := h
    obtain ⟨z, rfl, hz⟩ := word_of h1
    exact ⟨z, ts, as, rfl, hz, h2, h5, fun t m => ⟨dsk, test_of (h3 t m), sh⟩, fun a m => ⟨dsk, act_of (h6 a m), sh⟩⟩
  · cases h
/-! ### texts that can be laid -/
theorem strOk_app {a b : Str} (ha : PyData.strOk a = true) (hb : PyData.strOk b = true) : PyData.strOk (a ++ b) = true := by
  unfold PyData.strOk at *
  rw [Str.cps_append, Array.all_append, ha, hb]
  rfl
theorem strOk_two {a b : Str} (ha : PyData.strOk a = true) (hb : PyData.strOk b = true) : PyData.strOk (Txt.join " " [a, b]) = true := by
  rw [two_join]
  exact strOk_app (strOk_app ha (by decide +kernel)) hb
theorem stat_ok : ∀ z ∈ statusesS, PyData.strOk z = true := by decide +kernel
theorem day_ok : ∀ n : Nat, n ≤ 30 → PyData.strOk (toString ((n : Nat) : Int) : Str) = true := by
  intro n h
  have := (by decide +kernel : ∀ n ∈ List.range 31, PyData.strOk (toString ((n : Nat) : Int) : Str) = true)
  exact this n (List.mem_range.mpr (by omega))
theorem TestB.ok {d : PyData} (hh : TestB d) : PyData.strOk (testS d) = true := by
  obtain ⟨dsk, h, sh⟩ := hh.ex
  clear hh
  have lk : ∀ k : Str, k ∈ ([("status" : Str), "desk", "answered", "marked", "days"] : List Str) → PyData.strOk k = true := by decide +kernel
  have fin : ∀ (t : Str) (b : Bool), PyData.strOk t = true → PyData.strOk (if b = false then ("not " : Str) ++ t else t) = true := fun t b l => by
    split
    · exact strOk_app (by decide +kernel) l
    · exact l
  cases h with
  | status z b h => exact fin _ b (strOk_two (lk _ (by decide)) (stat_ok z h))
  | desk z b h => exact fin _ b (strOk_two (lk _ (by decide)) (name_okN (sh z h)))
  | answered b => exact fin _ b (by rw [one_join]; exact lk _ (by decide))
  | marked b => exact fin _ b (by rw [one_join]; exact lk _ (by decide))
  | days n h g =>
    obtain ⟨m, rfl⟩ := Int.eq_ofNat_of_zero_le (show 0 ≤ n by omega)
    exact strOk_two (lk _ (by decide)) (day_ok m (by omega))
/-! ### how a law writes them -/
def nbD : PyData → Bool
  | .bool _ => false
  | _ => true
def strD : PyData → PyData
  | .int n => .str (toString n : Str)
  | d => d
/-- the words of a test or an action, and what stands last -/
structure Wd (pre : Str) (txt : Str) (d : PyData) (ds : List PyData) (ws : List Str) : Prop where
  e : d = .tuple ds
  few : ds.length ≤ 3
  ew : (ds.filter nbD).map strD = ws.map PyData.str
  tp : ∀ x ∈ ds, (∃ b, x = .bool b) ∨ (∃ z, x = .str z) ∨ ∃ i : Int, x = .int i ∧ 1 ≤ i ∧ i ≤ 30
  sh : ∀ w ∈ ws, w.length ≤ 8
  two : ws.length ≤ 2
  last : ∃ l, ds.getLast? = some l ∧ ((∃ b, l = .bool b ∧ txt = if b = false then pre ++ Txt.join " " ws else Txt.join " " ws) ∨ (((∃ i : Int, l = .int i) ∨ ∃ z, l = .str z) ∧ txt = Txt.join " " ws))
theorem words8 : ∀ k : Str, k ∈ ([("status" : Str), "desk", "answered", "marked", "days", "reply", "mark", "stop"] : List Str) → k.length ≤ 8 := by decide +kernel
theorem TestB.wd {d : PyData} (hh : TestB d) : ∃ ds ws, Wd "not " (testS d) d ds ws := by
  obtain ⟨dsk, h, sh⟩ := hh.ex
  clear hh
  cases h with
  | status z b h => exact ⟨_, ["status", z], rfl, by simp, rfl, (by intro x m; simp only [List.mem_cons, List.not_mem_nil, or_false] at m; rcases m with rfl | rfl | rfl <;> simp), (by intro w m; simp only [List.mem_cons, List.not_mem_nil, or_false] at m; rcases m with rfl | rfl; exact words8 _ (by simp); exact stat_len _ h), by simp, _, rfl, .inl ⟨b, rfl, rfl⟩⟩
  | desk z b h => exact ⟨_, ["desk", z], rfl, by simp, rfl, (by intro x m; simp only [List.mem_cons, List.not_mem_nil, or_false] at m; rcases m with rfl | rfl | rfl <;> simp), (by intro w m; simp only [List.mem_cons, List.not_mem_nil, or_false] at m; rcases m with rfl | rfl; exact words8 _ (by simp); exact (name_len (sh _ h)).2), by simp, _, rfl, .inl ⟨b, rfl, rfl⟩⟩
  | answered b => exact ⟨_, ["answered"], rfl, by simp, rfl, (by intro x m; simp only [List.mem_cons, List.not_mem_nil, or_false] at m; rcases m with rfl | rfl <;> simp), (by intro w m; rw [List.mem_singleton.mp m]; exact words8 _ (by simp)), by simp, _, rfl, .inl ⟨b, rfl, rfl⟩⟩
  | marked b => exact ⟨_, ["marked"], rfl, by simp, rfl, (by intro x m; simp only [List.mem_cons, List.not_mem_nil, or_false] at m; rcases m with rfl | rfl <;> simp), (by intro w m; rw [List.mem_singleton.mp m]; exact words8 _ (by simp)), by simp, _, rfl, .inl ⟨b, rfl, rfl⟩⟩
  | days n h g =>
    refine ⟨_, ["days", (toString n : Str)], rfl, by simp, rfl, ?_, ?_, by simp, _, rfl, .inr ⟨.inl ⟨n, rfl⟩, rfl⟩⟩
    · intro x m
      simp only [List.mem_cons, List.not_mem_nil, or_false] at m
      rcases m with rfl | rfl
      · exact .inr (.inl ⟨_, rfl⟩)
      · exact .inr (.inr ⟨n, rfl, h, g⟩)
    · intro w m
      simp only [List.mem_cons, List.not_mem_nil, or_false] at m
      rcases m with rfl | rfl
      · exact words8 _ (by simp)
      · obtain ⟨k, rfl⟩ := Int.eq_ofNat_of_zero_le (show 0 ≤ n by omega)
        exact Nat.le_trans (day_len k (by omega)) (by decide)
theorem ActB.wd {d : PyData} (hh : ActB d) : ∃ ds ws, Wd "un" (actS d) d ds ws := by
  obtain ⟨dsk, h, sh⟩ := hh.ex
  clear hh
  cases h with
  | status z h => exact ⟨_, ["status", z], rfl, by simp, rfl, (by intro x m; simp only [List.mem_cons, List.not_mem_nil, or_false] at m; rcases m with rfl | rfl <;> simp), (by intro w m; simp only [List.mem_cons, List.not_mem_nil, or_false] at m; rcases m with rfl | rfl; exact words8 _ (by simp); exact stat_len _ h), by simp, _, rfl, .inr ⟨.inr ⟨z, rfl⟩, rfl⟩⟩
  | desk z h => exact ⟨_, ["desk", z], rfl, by simp, rfl, (by intro x m; simp only [List.mem_cons, List.not_mem_nil, or_false] at m; rcases m with rfl | rfl <;> simp), (by intro w m; simp only [List.mem_cons, List.not_mem_nil, or_false] at m; rcases m with rfl | rfl; exact words8 _ (by simp); exact (name_len (sh _ h)).2), by simp, _, rfl, .inr ⟨.inr ⟨z, rfl⟩, rfl⟩⟩
  | reply => exact ⟨_, ["reply"], rfl, by simp, rfl, (by intro x m; rw [List.mem_singleton.mp m]; simp), (by intro w m; rw [List.mem_singleton.mp m]; exact words8 _ (by simp)), by simp, _, rfl, .inr ⟨.inr ⟨_, rfl⟩, rfl⟩⟩
  | stop => exact ⟨_, ["stop"], rfl, by simp, rfl, (by intro x m; rw [List.mem_singleton.mp m]; simp), (by intro w m; rw [List.mem_singleton.mp m]; exact words8 _ (by simp)), by simp, _, rfl, .inr ⟨.inr ⟨_, rfl⟩, rfl⟩⟩
  | mark b => exact ⟨_, ["mark"], rfl, by simp, rfl, (by intro x m; simp only [List.mem_cons, List.not_mem_nil, or_false] at m; rcases m with rfl | rfl <;> simp), (by intro w m; rw [List.mem_singleton.mp m]; exact words8 _ (by simp)), by simp, _, rfl, .inl ⟨b, rfl, rfl⟩⟩
end Ld

set_option Elab.async false
set_option linter.all false
set_option maxRecDepth 100000
set_option maxHeartbeats 2000000
/-! A call of an own function of two parameters, both by their names, the last one first. -/
namespace Ld
open PySem PySem.Spec PyProof.Rows L2
def swG {α : Type} (us ws : List α) : List α := match us, ws with
  | [], [y, x] => [x, y]
  | _, _ => []
theorem swG_rel {vs zs : List V} {us ws : List Value} (r : Vals vs us) (q : Vals zs ws) : Vals (swG vs zs) (swG us ws) := by
  cases r with
  | nil => cases q with
    | nil => exact .nil
    | cons a q => cases q with
      | nil => exact .nil
      | cons b q => cases q with
        | nil => exact .cons b (.cons a .nil)
        | cons _ _ => exact .nil
  | cons a r => cases q <;> exact .nil
theorem kb_two {K : PySem.W.Frag} {fd : FuncData} {a b : Str} (h : ∀ x y : Value, bindArgs fd ⟨[], [(b, y), (a, x)]⟩ = pure [(a, x), (b, y)]) : KBinds K fd [a, b] [b, a] swG swG := by
  refine ⟨fun s us ws _ hl => ?_, swG_rel⟩
  match us, ws, hl with
  | [], [y, x], _ => exact .of_eq (h x y)
/-- f(b = .., a = ..) -/
def tCallK2 (sp : Sp) (E : XK) (tk : TA) : TE := fun σ H Q => tk σ H fun zs H2 => ∃ y x, zs = [y, x] ∧ sp [x, y] H2 Q E
theorem pe_callK2 {X : Cx} {x a b : Str} {st : Stmt} {k : Nat} {sp : Sp} {E : XK} {kws : List Keyword} {tk : TA} {p pos : Pos}
    (At : FnAt X.K X.mg x st [a, b]) (D : DefOk X.prog X.w X.K X.mg X.base x [a, b] k sp) {n : Nat} (hr : Room n X.A) (hg : Gl X x) (hx : Passes (L2.CX X.prog X.w) X E) (hkw : PK X kws tk)
    (hb : ∀ (kV doc pm : Value) (an : Option Addr) (cdv ct : Value) (u w : Value), bindArgs (PySem.W.fnOf x x (defArgs st) (defBody st) (defScope st) .none kV doc pm an cdv ct) ⟨[], [(b, w), (a, u)]⟩ = pure [(a, u), (b, w)]) (hk : k ≤ n := by omega)
    (hdb : (x == ("__debug__" : Str)) = false := by decide) (hall : (backToKw pos (keywordEach kws X.env)).all (·.1.isSome) = true := by rfl) (hks : (backToKw pos (keywordEach kws X.env)).filterMap (·.1) = [b, a] := by rfl)
    (hpl : ((backTo pos (starEach [] X.env)).any (·.1) || (backToKw pos (keywordEach kws X.env)).any (·.1.isNone)) = false := by rfl) :
    PE X (.Call (.Name x p) [] kws pos) (tCallK2 sp E tk) := by
  obtain ⟨f, fd, hm, kp, _, F, lk⟩ := D.ex
  obtain ⟨f', fd', hm', hf, _⟩ := At.ex
  rw [hm] at hm'
  cases hm'
  have e2 : fd' = fd := hf.lkF.inj lk
  subst e2
  obtain ⟨oc, od, kV, doc, pm, an, cdv, ct, osl, e, l, _⟩ := hf.ex
  subst e
  refine ⟨fun pins s σ H Q I h => ?_⟩
  refine wpAny_Call_Name_kw (ld_glob I hg hm ?_ hdb)
  refine PySem.W.callWith_KW0 (first := []) (h₀ := X.base) I.ok.mod.kin kp hall (thn (hkw.run pos pins s σ H _ I h) fun ws s2 ⟨zs, H2, I2, rz, y, z, ez, q2⟩ => ⟨I2.kIn, ?_⟩) hpl
  subst ez
  rw [hks]
  exact run_fnk (us := []) (vs := []) F (hr.mono hk) (kb_two fun u w => hb kV doc pm an cdv ct u w) hx I2 .nil rz q2
def twoFG {α : Type} (us ws : List α) : List α := match us, ws with
  | [], [x, y] => [x, y]
  | _, _ => []
theorem twoFG_rel {vs zs : List V} {us ws : List Value} (r : Vals vs us) (q : Vals zs ws) : Vals (twoFG vs zs) (twoFG us ws) := by
  cases r with
  | nil => cases q with
    | nil => exact .nil
    | cons a q => cases q with
      | nil => exact .nil
      | cons b q => cases q with
        | nil => exact .cons a (.cons b .nil)
        | cons _ _ => exact .nil
  | cons a r => cases q <;> exact .nil
theorem kb_twoF {K : PySem.W.Frag} {fd : FuncData} {a b : Str} (h : ∀ x y : Value, bindArgs fd ⟨[], [(a, x), (b, y)]⟩ = pure [(a, x), (b, y)]) : KBinds K fd [a, b] [a, b] twoFG twoFG := by
  refine ⟨fun s us ws _ hl => ?_, twoFG_rel⟩
  match us, ws, hl with
  | [], [x, y], _ => exact .of_eq (h x y)
/-- f(a = .., b = ..) -/
def tCallK2o (sp : Sp) (E : XK) (tk : TA) : TE := fun σ H Q => tk σ H fun zs H2 => ∃ x y, zs = [x, y] ∧ sp [x, y] H2 Q E
theorem pe_callK2o {X : Cx} {x a b : Str} {st : Stmt} {k : Nat} {sp : Sp} {E : XK} {kws : List Keyword} {tk : TA} {p pos : Pos}
    (At : FnAt X.K X.mg x st [a, b]) (D : DefOk X.prog X.w X.K X.mg X.base x [a, b] k sp) {n : Nat} (hr : Room n X.A) (hg : Gl X x) (hx : Passes (L2.CX X.prog X.w) X E) (hkw : PK X kws tk)
    (hb : ∀ (kV doc pm : Value) (an : Option Addr) (cdv ct : Value) (u w : Value), bindArgs (PySem.W.fnOf x x (defArgs st) (defBody st) (defScope st) .none kV doc pm an cdv ct) ⟨[], [(a, u), (b, w)]⟩ = pure [(a, u), (b, w)]) (hk : k ≤ n := by omega)
    (hdb : (x == ("__debug__" : Str)) = false := by decide) (hall : (backToKw pos (keywordEach kws X.env)).all (·.1.isSome) = true := by rfl) (hks : (backToKw pos (keywordEach kws X.env)).filterMap (·.1) = [a, b] := by rfl)
    (hpl : ((backTo pos (starEach [] X.env)).any (·.1) || (backToKw pos (keywordEach kws X.env)).any (·.1.isNone)) = false := by rfl) :
    PE X (.Call (.Name x p) [] kws pos) (tCallK2o sp E tk) := by
  obtain ⟨f, fd, hm, kp, _, F, lk⟩ := D.ex
  obtain ⟨f', fd', hm', hf, _⟩ := At.ex
  rw [hm] at hm'
  cases hm'
  have e2 : fd' = fd := hf.lkF.inj lk
  subst e2
  obtain ⟨oc, od, kV, doc, pm, an, cdv, ct, osl, e, l, _⟩ := hf.ex
  subst e
  refine ⟨fun pins s σ H Q I h => ?_⟩
  refine wpAny_Call_Name_kw (ld_glob I hg hm ?_ hdb)
  refine PySem.W.callWith_KW0 (first := []) (h₀ := X.base) I.ok.mod.kin kp hall (thn (hkw.run pos pins s σ H _ I h) fun ws s2 ⟨zs, H2, I2, rz, y, z, ez, q2⟩ => ⟨I2.kIn, ?_⟩) hpl
  subst ez
  rw [hks]
  exact run_fnk (us := []) (vs := []) F (hr.mono hk) (kb_twoF fun u w => hb kV doc pm an cdv ct u w) hx I2 .nil rz q2
def oneFG {α : Type} (us ws : List α) : List α := match us, ws with
  | [], [x] => [x]
  | _, _ => []
theorem oneFG_rel {vs zs : List V} {us ws : List Value} (r : Vals vs us) (q : Vals zs ws) : Vals (oneFG vs zs) (oneFG us ws) := by
  cases r with
  | nil => cases q with
    | nil => exact .nil
    | cons a q => cases q with
      | nil => exact .cons a .nil
      | cons _ _ => exact .nil
  | cons a r => cases q <;> exact .nil
theorem kb_oneF {K : PySem.W.Frag} {fd : FuncData} {a : Str} (h : ∀ x : Value, bindArgs fd ⟨[], [(a, x)]⟩ = pure [(a, x)]) : KBinds K fd [a] [a] oneFG oneFG := by
  refine ⟨fun s us ws _ hl => ?_, oneFG_rel⟩
  match us, ws, hl with
  | [], [x], _ => exact .of_eq (h x)
/-- f(a = ..), the one parameter by its name -/
def tCallK1 (sp : Sp) (E : XK) (tk : TA) : TE := fun σ H Q => tk σ H fun zs H2 => ∃ x, zs = [x] ∧ sp [x] H2 Q E
theorem pe_callK1 {X : Cx} {x a : Str} {st : Stmt} {k : Nat} {sp : Sp} {E : XK} {kws : List Keyword} {tk : TA} {p pos : Pos}
    (At : FnAt X.K X.mg x st [a]) (D : DefOk X.prog X.w X.K X.mg X.base x [a] k sp) {n : Nat} (hr : Room n X.A) (hg : Gl X x) (hx : Passes (L2.CX X.prog X.w) X E) (hkw : PK X kws tk)
    (hb : ∀ (kV doc pm : Value) (an : Option Addr) (cdv ct : Value) (u : Value), bindArgs (PySem.W.fnOf x x (defArgs st) (defBody st) (defScope st) .none kV doc pm an cdv ct) ⟨[], [(a, u)]⟩ = pure [(a, u)]) (hk : k ≤ n := by omega)
    (hdb : (x == ("__debug__" : Str)) = false := by decide) (hall : (backToKw pos (keywordEach kws X.env)).all (·.1.isSome) = true := by rfl) (hks : (backToKw pos (keywordEach kws X.env)).filterMap (·.1) = [a] := by rfl)
    (hpl : ((backTo pos (starEach [] X.env)).any (·.1) || (backToKw pos (keywordEach kws X.env)).any (·.1.isNone)) = false := by rfl) :
    PE X (.Call (.Name x p) [] kws pos) (tCallK1 sp E tk) := by
  obtain ⟨f, fd, hm, kp, _, F, lk⟩ := D.ex
  obtain ⟨f', fd', hm', hf, _⟩ := At.ex
  rw [hm] at hm'
  cases hm'
  have e2 : fd' = fd := hf.lkF.inj lk
  subst e2
  obtain ⟨oc, od, kV, doc, pm, an, cdv, ct, osl, e, l, _⟩ := hf.ex
  subst e
  refine ⟨fun pins s σ H Q I h => ?_⟩
  refine wpAny_Call_Name_kw (ld_glob I hg hm ?_ hdb)
  refine PySem.W.callWith_KW0 (first := []) (h₀ := X.base) I.ok.mod.kin kp hall (thn (hkw.run pos pins s σ H _ I h) fun ws s2 ⟨zs, H2, I2, rz, y, ez, q2⟩ => ⟨I2.kIn, ?_⟩) hpl
  subst ez
  rw [hks]
  exact run_fnk (us := []) (vs := []) F (hr.mono hk) (kb_oneF fun u => hb kV doc pm an cdv ct u) hx I2 .nil rz q2
end Ld

set_option Elab.async false
set_option linter.all false
set_option maxRecDepth 100000
set_option maxHeartbeats 2000000
/-! index, and in, of lists and tuples of plain things and of data. -/
namespace Ld
open PySem PySem.Spec PyProof.Rows L2
/-- a comprehension within a comprehension -/
theorem relabel_lookup {env : Env} {x : Str} {k : NameKind} : ∀ {names : List (Str × NameKind)}, names.lookup x = some k →
    ∃ k', (names.map fun (n, k) => if (k == NameKind.free && env.scope.kind == .function && env.kindOf n == some .cell) then (n, NameKind.cell) else (n, k)).lookup x = some k' ∧ (k' = k ∨ k' = .cell)
  | [], h => by simp at h
  | (n, j) :: r, h => by
    have ih := @relabel_lookup env x k r
    show ∃ k', List.lookup x ((if (j == NameKind.free && env.scope.kind == .function && env.kindOf n == some .cell) = true then (n, NameKind.cell) else (n, j)) :: _) = some k' ∧ _
    cases hx : x == n with
    | true =>
      simp only [List.lookup_cons, hx] at h
      cases h
      split
      · exact ⟨.cell, by simp [List.lookup_cons, hx], .inr rfl⟩
      · exact ⟨k, by simp [List.lookup_cons, hx], .inl rfl⟩
    | false =>
      simp only [List.lookup_cons, hx] at h
      obtain ⟨k', e, o⟩ := ih h
      split
      · exact ⟨k', by simpa [List.lookup_cons, hx] using e, o⟩
      · exact ⟨k', by simpa [List.lookup_cons, hx] using e, o⟩
theorem blkOk_in {N : List Str} {scope0 scope : Scope} {own : List (Str × Nat)} {cl : List (Str × Addr)} {C : Addr} {env : Env} (h : blkC N scope0 scope own = true) : BlkOk N (compEnvC scope0 cl C env).scope scope own := by
  obtain ⟨h1, h2, h3, h4, h5⟩ := blkOk_by h
  refine ⟨h1, h2, h3, fun y m e => ?_, h5⟩
  rcases h4 y m e with q | q
  · obtain ⟨k', e', o⟩ := relabel_lookup (env := env) q
    rcases o with rfl | rfl
    · exact .inl e'
    · exact .inl e'
  · obtain ⟨k', e', o⟩ := relabel_lookup (env := env) q
    rcases o with rfl | rfl
    · exact .inr e'
    · exact .inl e'
section
variable {X : Cx} {K : PySem.W.Frag}
theorem kmt_index (hK : X.K = K := by rfl) : MtR X "list.index" (rIndex K) := hK ▸ mt_index
theorem kmt_indexD (hu : X.A.units + 65 < cLine) (hK : X.K = K := by rfl) : MtR X "list.index" (rIndexD K) := hK ▸ mt_indexD hu
theorem hu_65 {A : Around} {k : Nat} (hr : Room k A) : A.units + 65 < cLine := by have := hr.un; omega
theorem kMaxL (hc : X.calm = true) (hK : X.K = K := by rfl) : CallR X (.builtin "max") (rMax K) := hK ▸ cr_max hc
/-- x in a tuple of data -/
def rInDT (K : PySem.W.Frag) : R2 := fun x y H Q => ∃ d ds, Dp K H x d ∧ Dp K H y (.tuple ds) ∧ SeqAt.shaped d = true ∧ SeqAt.shaped (.tuple ds) = true ∧ Q (.bl (ds.any fun z => PyData.eqv z d)) H
theorem op_inDT (hu : X.A.units + 65 < cLine) : OpR X (compareOp .In) (rInDT X.K) := by
  intro pins s σ H x y v u Q I rx ry h
  obtain ⟨d, ds, hd, he, sd, se, q⟩ := h
  obtain ⟨as, r1⟩ := Dp.reads I d x v hd rx
  obtain ⟨bs, r2⟩ := Dp.reads I (.tuple ds) y u he ry
  exact SeqAt.in_tuple_reads r2 r1 (SeqAt.canLay_of_shaped se) (SeqAt.canLay_of_shaped sd) (room_in_shaped sd hu) ⟨.bl _, H, I, rfl, q⟩
theorem kInDT (hu : X.A.units + 65 < cLine) (hK : X.K = K := by rfl) : OpR X (compareOp .In) (rInDT K) := hK ▸ op_inDT hu
/-- t.index(x) of a tuple of data: the first place of an equal one -/
def rIndexDT (K : PySem.W.Frag) : V → List V → Hp → VK → Prop := fun x xs H Q => ∃ (a : Addr) (y : V) (d : PyData) (ds : List PyData) (j : Nat) (z : PyData), x = V.ref a ∧ xs = [y] ∧ Dp K H (V.ref a) (.tuple ds) ∧ Dp K H y d ∧
  SeqAt.shaped (.tuple ds) = true ∧ SeqAt.shaped d = true ∧ ds[j]? = some z ∧ PyData.eqv z d = true ∧ (∀ (m : Nat) (z' : PyData), m < j → ds[m]? = some z' → PyData.eqv z' d = false) ∧ Q (.int (j : Nat)) H
theorem mt_indexDT (hu : X.A.units + 65 < cLine) : MtR X "tuple.index" (rIndexDT X.K) := by
  intro pins s σ H x xs v us Q I rx rxs h
  obtain ⟨a, y, d, ds, j, z, rfl, rfl, hl, hy, sl, sd, hz, hzj, hno, q⟩ := h
  cases rx
  cases rxs with
  | cons ry rt =>
    rename_i uy ut
    cases rt
    obtain ⟨bs, r1⟩ := Dp.reads I d y uy hy ry
    have hxs : PyData.canLayAll0 ds = true := SeqAt.canLay_of_shaped sl
    have hroom : X.A.units + 1 + min (PyData.depthAll ds) d.depth < cLine := room_in_shaped sd hu
    cases hl with
    | tup hs ha =>
      obtain ⟨its, rv, ⟨⟨cls, dd, data, sls⟩, ho, hc, n, hdt⟩, hlen⟩ := I.tuple hs
      simp only at hc hdt
      subst hc hdt
      obtain ⟨as, h4⟩ := Dp.readsAll I ds _ its ha rv
      have hn : its.length = ds.length := SeqAt.ReadsAll.length ds its as h4
      have hmap : its.map (SeqAt.readOf s.heap) = ds := SeqAt.readsAll_map ds its as hxs h4
      obtain ⟨hjd, _⟩ := List.getElem?_eq_some_iff.mp hz
      have hjl : j < its.length := by omega
      have hj : j < its.toArray.size := by simpa using hjl
      have at_ : ∀ (m : Nat) (hm : m < its.toArray.size) (z' : PyData), ds[m]? = some z' → SeqAt.readOf s.heap its.toArray[m] = z' := by
        intro m hm z' hz'
        have hml : m < its.length := by simpa using hm
        rw [← hmap, List.getElem?_map, List.getElem?_eq_getElem hml] at hz'
        have e1 : SeqAt.readOf s.heap its[m] = z' := Option.some.inj (show some (SeqAt.readOf s.heap its[m]) = some z' from hz')
        simpa using e1
      refine call_meets PySem.F.slot_tuple_index ⟨_, ho, rfl⟩ PySem.F.entry_tuple_index (PySem.F.args_tuple_index_2 _ _)
        (TI.tuple_indexAt a its.toArray n dd sls uy (fun u => PyData.eqv (SeqAt.readOf s.heap u) d) j hj ?_ ?_) ⟨ho, SeqAt.items_eqAt (vs := its.toArray) (show ReadsAll s.heap its.toArray.toList ds as from h4) r1 hxs (SeqAt.canLay_of_shaped sd) hroom, ?_⟩
      · show PyData.eqv (SeqAt.readOf s.heap its.toArray[j]) d = true
        rw [at_ j hj z hz]
        exact hzj
      · intro m hm hmj
        have hmd : m < ds.length := by omega
        have hz' : ds[m]? = some ds[m] := List.getElem?_eq_getElem hmd
        show PyData.eqv (SeqAt.readOf s.heap its.toArray[m]) d = false
        rw [at_ m hm _ hz']
        exact hno m _ hmj hz'
      · exact ⟨.int (j : Nat), H, I.tok _, ⟨_, rfl⟩, q⟩
theorem kmt_indexDT (hu : X.A.units + 65 < cLine) (hK : X.K = K := by rfl) : MtR X "tuple.index" (rIndexDT K) := hK ▸ mt_indexDT hu
/-- the place of a number in a list of numbers -/
theorem index_ints {H : Hp} {Q : VK} {p : Addr} {L : List Int} {k : Int} (e : H p = some (.lst (L.map V.int))) (m : k ∈ L) (q : Q (.int ((L.idxOf k : Nat) : Int)) H) : rIndex K (.ref p) [.int k] H Q := by
  have hl : L.idxOf k < L.length := List.idxOf_lt_length_of_mem m
  have hk : L[L.idxOf k] = k := List.getElem_idxOf hl
  refine ⟨p, L.map V.int, .int k, L.idxOf k, .int k, rfl, rfl, .inl (.inl e), rfl, ?_, ?_, ?_, ?_, q⟩
  · rw [List.all_map]
    exact List.all_eq_true.mpr fun _ _ => rfl
  · rw [List.getElem?_map, List.getElem?_eq_getElem hl, hk]
    rfl
  · show decide (k = k) = true
    exact decide_eq_true rfl
  · intro j z hj hz
    rw [List.getElem?_map, List.getElem?_eq_getElem (show j < L.length by omega)] at hz
    cases hz
    have hne : L[j] ≠ k := fun c => by
      have := List.not_of_lt_findIdx (p := fun x => x == k) (xs := L) (i := j) hj
      simp [c] at this
    show decide (L[j] = k) = false
    exact decide_eq_false hne
end
end Ld

set_option Elab.async false
set_option linter.all false
set_option maxRecDepth 100000
set_option maxHeartbeats 2000000
/-! More comprehensions over lists that have come. -/
namespace Ld
open PySem PySem.Spec PyProof.Rows L2
section
variable {K : PySem.W.Frag} {g : TG} {tt : TT} {te : TE} {vs : List Nat} {σ : L2.St} {H : Hp} {Q : VK} {a : Addr} {xs : List V} {v : V}
/-- item by item, by a relation that may look at where the list is made; nothing that stands changes -/
theorem lcRelSeq {Rl : Addr → Nat → V → Hp → Prop} (st : ∀ D acc i y H1 H2, H D = none → H1 D = some (.lst acc) → Keep (fun b => b = D) H1 H2 → Rl D i y H1 → Rl D i y H2) (hs : SqL K H a xs) (few : xs.length < sizeLine)
    (step : ∀ D acc i x H' (N : VK), xs[i]? = some x → H D = none → H' D = some (.lst acc) → Same H H' → (∀ y H4, Same H' H4 → Rl D i y H4 → N y H4) → g x (wipe σ vs) H' fun σ2 H2 => wipe σ2 vs = wipe σ vs ∧ te σ2 H2 N)
    (hd : ∀ D H' ys, H D = none → Same H H' → H' D = some (.lst ys) → ys.length = xs.length → (∀ i y, ys[i]? = some y → Rl D i y H') → Q (.ref D) H') : LcSeqL K g tYes te vs σ Q (.ref a) H := by
  have L : LcAsk (fun _ => False) H (fun _ => True) Rl := lcAsk0 fun D acc i y H1 H2 n e k r => st D acc i y H1 H2 n e (fun b o nb q => k b o (fun c => c.elim id nb) q) r
  exact ⟨a, rfl, ⟨xs, hs⟩, lcRelIn walk_list few L (fun H' k _ => dlL_same k.same hs) (fun i x H1 H' k v y => by
    obtain ⟨rfl, e⟩ := y
    exact ⟨Keep.refl _, v⟩) (fun D acc i x H1 H' N hi nD e k v y q => by
    obtain ⟨rfl, e'⟩ := y
    exact step D acc i x _ N e' nD e k.same fun y H4 s r => q y H4 (Keep.of s) trivial r) fun D H' ys nD k _ e l r => hd D H' ys nD k.same e l r⟩
/-- those that pass a test, each made anew, by data -/
theorem lcFilMap {ds : List PyData} (m : Nat) (p : PyData → Bool) (F : PyData → PyData) (hv : Dp K H v (.list ds)) (few : ds.length < sizeLine) (tp : ∀ d ∈ ds, p d = true → tpD m (F d))
    (step : ∀ (i : Nat) (x : V) (d : PyData) (H' : Hp) (N : Bool → V → Hp → Prop), ds[i]? = some d → Same H H' → Dp K H' x d → (∀ H4, Same H' H4 → p d = false → N false .non H4) → (∀ y H4, Same H' H4 → p d = true → Dp K H4 y (F d) → N true y H4) →
      g x (wipe σ vs) H' fun σ2 H2 => wipe σ2 vs = wipe σ vs ∧ tt σ2 H2 fun b H3 => if b = true then te σ2 H3 fun y H4 => N true y H4 else N false .non H3)
    (hd : ∀ D H' ys, H D = none → Same H H' → H' D = some (.lst ys) → DpAll K H' ys ((ds.filter p).map F) → Q (.ref D) H') : LcSeqL K g tt te vs σ Q v H := by
  obtain ⟨a, xs, rfl, sx, dx⟩ := dp_lst hv
  have l := dps_len dx
  refine ⟨a, rfl, ⟨xs, sx⟩, ?_⟩
  refine lcAnyIn walk_list (fun D i H' => Same H H' ∧ ∃ ys, H' D = some (.lst ys) ∧ ys.length ≤ i ∧ DpAll K H' ys (((ds.take i).filter p).map F)) (fun D nD => ⟨Same.put (Same.refl H) nD, [], upd_same, Nat.le_refl _, .nil⟩) (fun D i H' _ q => dlL_same q.1 sx) ?_ ?_
  · rintro D nD i x H0 H1 hi ⟨k1, ys, e1, ly, dy⟩ y
    obtain ⟨rfl, hx⟩ := y
    obtain ⟨d, hd', hx'⟩ := dps_get dx hx
    have md := List.mem_of_getElem? hd'
    have := step i x d H1 (fun b y H4 => if b = true then (∃ acc, H4 D = some (.lst acc) ∧ acc.length < sizeLine ∧ (Same H (upd H4 D (.lst (acc ++ [y]))) ∧ ∃ zs, upd H4 D (.lst (acc ++ [y])) D = some (.lst zs) ∧ zs.length ≤ i + 1 ∧ DpAll K (upd H4 D (.lst (acc ++ [y]))) zs (((ds.take (i + 1)).filter p).map F))) else (Same H H4 ∧ ∃ zs, H4 D = some (.lst zs) ∧ zs.length ≤ i + 1 ∧ DpAll K H4 zs (((ds.take (i + 1)).filter p).map F))) hd' k1 (dpSame k1 hx') ?_ ?_
    · exact this
    · intro H4 s4 hp
      refine ⟨k1.trans s4, ys, s4 _ _ e1, by omega, ?_⟩
      rw [List.take_succ, hd', List.filter_append]
      simp only [Option.toList, List.filter_cons, hp, List.filter_nil, Bool.false_eq_true, if_false, List.append_nil]
      exact dpsSame s4 dy
    · intro y H4 s4 hp d4
      have e4 := s4 _ _ e1
      have k5 : NLs H4 (upd H4 D (.lst (ys ++ [y]))) := NLs.put e4
      refine ⟨ys, e4, by omega, fun b o e => ?_, ys ++ [y], upd_same, by rw [List.length_append, List.length_singleton]; omega, ?_⟩
      · rw [upd_ne (ne_of_none e nD)]
        exact s4 _ _ (k1 _ _ e)
      · rw [List.take_succ, hd', List.filter_append, List.map_append]
        simp only [Option.toList, List.filter_cons, hp, List.filter_nil, if_true, List.map_cons, List.map_nil]
        refine dps_append (dps_map (dpsSame s4 dy) fun v d k h => dp_nls k5 m ?_ h) (.cons (dp_nls k5 m (tp d md hp) d4) .nil)
        obtain ⟨d0, m0, rfl⟩ := List.mem_map.mp k
        obtain ⟨m1, m2⟩ := List.mem_filter.mp m0
        exact tp d0 (List.mem_of_mem_take m1) m2
  · rintro D nD H' ⟨k, ys, e, ly, dy⟩
    rw [l, List.take_length] at dy
    exact hd D H' ys nD k e dy
theorem from_dl {ds : List PyData} {k : Nat} (h : Dp K H v (.list ds)) (hk : k ≤ ds.length) (q : ∀ p H', Same H H' → H p = none → Dp K H' (.ref p) (.list (ds.drop k)) → Q (.ref p) H') : rSlU K v (some (k : Int)) none H Q := by
  obtain ⟨a, xs, rfl, sx, dx⟩ := dp_lst h
  have l := dps_len dx
  exact sl_from sx (by omega) fun p H' s np ep => q p H' s np (.lst (.inl (.inl ep)) (dpsSame s (dps_drop k dx)))
end
end Ld

set_option Elab.async false
set_option linter.all false
set_option maxRecDepth 100000
set_option maxHeartbeats 2000000
namespace Ld
open PySem PySem.Spec PyProof.Rows L2
section
variable {K : PySem.W.Frag} {g : TG} {tt : TT} {te : TE} {vs : List Nat} {σ : L2.St} {H : Hp} {Q : VK} {a : Addr} {xs : List V} {v : V}
/-- those that pass a test, each made anew, by data -/
theorem lcFilMapT {ds : List PyData} (m : Nat) (p : PyData → Bool) (F : PyData → PyData) (hv : Dp K H v (.tuple ds)) (few : ds.length < sizeLine) (tp : ∀ d ∈ ds, p d = true → tpD m (F d))
    (step : ∀ (i : Nat) (x : V) (d : PyData) (H' : Hp) (N : Bool → V → Hp → Prop), ds[i]? = some d → Same H H' → Dp K H' x d → (∀ H4, Same H' H4 → p d = false → N false .non H4) → (∀ y H4, Same H' H4 → p d = true → Dp K H4 y (F d) → N true y H4) →
      g x (wipe σ vs) H' fun σ2 H2 => wipe σ2 vs = wipe σ vs ∧ tt σ2 H2 fun b H3 => if b = true then te σ2 H3 fun y H4 => N true y H4 else N false .non H3)
    (hd : ∀ D H' ys, H D = none → Same H H' → H' D = some (.lst ys) → DpAll K H' ys ((ds.filter p).map F) → Q (.ref D) H') : LcSeqT K g tt te vs σ Q v H := by
  obtain ⟨a, xs, rfl, sx, dx⟩ := dp_tup hv
  have l := dps_len dx
  refine ⟨a, rfl, ⟨xs, sx⟩, ?_⟩
  refine lcAnyIn walk_tup (fun D i H' => Same H H' ∧ ∃ ys, H' D = some (.lst ys) ∧ ys.length ≤ i ∧ DpAll K H' ys (((ds.take i).filter p).map F)) (fun D nD => ⟨Same.put (Same.refl H) nD, [], upd_same, Nat.le_refl _, .nil⟩) (fun D i H' _ q => same_seqT q.1 sx) ?_ ?_
  · rintro D nD i x H0 H1 hi ⟨k1, ys, e1, ly, dy⟩ y
    obtain ⟨rfl, hx⟩ := y
    obtain ⟨d, hd', hx'⟩ := dps_get dx hx
    have md := List.mem_of_getElem? hd'
    have := step i x d H1 (fun b y H4 => if b = true then (∃ acc, H4 D = some (.lst acc) ∧ acc.length < sizeLine ∧ (Same H (upd H4 D (.lst (acc ++ [y]))) ∧ ∃ zs, upd H4 D (.lst (acc ++ [y])) D = some (.lst zs) ∧ zs.length ≤ i + 1 ∧ DpAll K (upd H4 D (.lst (acc ++ [y]))) zs (((ds.take (i + 1)).filter p).map F))) else (Same H H4 ∧ ∃ zs, H4 D = some (.lst zs) ∧ zs.length ≤ i + 1 ∧ DpAll K H4 zs (((ds.take (i + 1)).filter p).map F))) hd' k1 (dpSame k1 hx') ?_ ?_
    · exact this
    · intro H4 s4 hp
      refine ⟨k1.trans s4, ys, s4 _ _ e1, by omega, ?_⟩
      rw [List.take_succ, hd', List.filter_append]
      simp only [Option.toList, List.filter_cons, hp, List.filter_nil, Bool.false_eq_true, if_false, List.append_nil]
      exact dpsSame s4 dy
    · intro y H4 s4 hp d4
      have e4 := s4 _ _ e1
      have k5 : NLs H4 (upd H4 D (.lst (ys ++ [y]))) := NLs.put e4
      refine ⟨ys, e4, by omega, fun b o e => ?_, ys ++ [y], upd_same, by rw [List.length_append, List.length_singleton]; omega, ?_⟩
      · rw [upd_ne (ne_of_none e nD)]
        exact s4 _ _ (k1 _ _ e)
      · rw [List.take_succ, hd', List.filter_append, List.map_append]
        simp only [Option.toList, List.filter_cons, hp, List.filter_nil, if_true, List.map_cons, List.map_nil]
        refine dps_append (dps_map (dpsSame s4 dy) fun v d k h => dp_nls k5 m ?_ h) (.cons (dp_nls k5 m (tp d md hp) d4) .nil)
        obtain ⟨d0, m0, rfl⟩ := List.mem_map.mp k
        obtain ⟨m1, m2⟩ := List.mem_filter.mp m0
        exact tp d0 (List.mem_of_mem_take m1) m2
  · rintro D nD H' ⟨k, ys, e, ly, dy⟩
    rw [l, List.take_length] at dy
    exact hd D H' ys nD k e dy
theorem ix_lastD {ds : List PyData} {l : PyData} (h : Dp K H v (.tuple ds)) (e : ds.getLast? = some l) (q : ∀ u, Dp K H u l → Q u H) : rIxU K v (.int (-1)) H Q := by
  obtain ⟨a, xs, rfl, sx, dx⟩ := dp_tup h
  have ln := dps_len dx
  have ne : xs ≠ [] := fun c => by
    rw [c] at dx
    cases dx
    cases e
  rcases List.eq_nil_or_concat xs with c | ⟨i, x, c⟩
  · exact absurd c ne
  · rw [List.concat_eq_append] at c
    subst c
    refine ix_t sx (atI_last i x) (q x ?_)
    obtain ⟨d, hd, dd⟩ := dps_get dx (i := i.length) (v := x) (by simp)
    rw [List.getLast?_eq_getElem?] at e
    rw [List.length_append, List.length_singleton] at ln
    rw [show ds.length - 1 = i.length by omega, hd] at e
    cases e
    exact dd
end
end Ld

set_option Elab.async false
set_option linter.all false
set_option maxRecDepth 100000
set_option maxHeartbeats 2000000
/-! x != y of a class that has an own __eq__ and no own __ne__. -/
namespace Ld
open PySem PySem.Spec PyProof.Rows L2 PySem.SeqAt
section
variable {M : Model} {prog : Program} {w : World} {A : Around} {E : Value → Shared → Prop} {s : Shared} {K : PySem.W.Frag} {x y C f : Addr} {ox : Obj} {od : Option Obj} {tb : Value}
theorem ifBound_ne {args : List Value} {Q : Option Value → Shared → Prop} (X : K.In s.heap) (I : PySem.W.InstAt s.heap x ox C od) (hs : PySem.W.findIn K (.ref C) "__ne__" = some (some (.builtin "object.__ne__")))
    (h : wpAny M A (call (.builtin "object.__ne__") (.ref x :: args)) (fun v => Q (some v)) E s) : wpAny M A (callSpecialIfBound? (.ref x) "__ne__" args) Q E s := by
  simp only [callSpecialIfBound?, bindSpecialIfBound?]
  have last : wpAny M A (call (.builtin "object.__ne__") ([.ref x] ++ args) >>= fun v => pure (some v)) Q E s := wpAny_bind (wpAny_mono h (fun v s' z => wpAny_pure z) fun _ _ z => z)
  refine wpAny_holding (wpAny_bind (wpAny_bind (wpAny_bind (I.type.here ((PySem.W.looks_findIn X hs).here ?_)))))
  refine wpAny_bind (wpAny_askSetting (wpAny_ite ?_))
  split
  · exact wpAny_bind (wpAny_of_eq (F.cmp_object.ne.bind _) (wpAny_pure (by exact last)))
  · exact wpAny_tryCatch (wpAny_bind (wpAny_of_eq (F.cmp_object.ne.bind _) (wpAny_pure (by exact last))))
theorem ne_entry (X : K.In s.heap) (I : PySem.W.InstAt s.heap x ox C od) (hu : A.units < cLine) (he : PySem.W.findIn K (.ref C) "__eq__" = some (some (.ref f))) (hf : PySem.W.isFn K (.ref f) = true) {Q : Fin → Shared → Prop}
    (hc : wpAny (model prog w) A (call (.ref f) [.ref x, .ref y]) (fun v s' => ∃ b, v = .bool b ∧ Q (.done (.ret (.bool (!b)))) s') E s) :
    wpAny (model prog w) A (Builtin.«object.__ne__» ⟨[.ref x, .ref y], []⟩) Q E s := by
  unfold Builtin.«object.__ne__»
  repeat (first
    | with_reducible refine wpAny_cRoomFor hu ?_
    | (refine wpAny_bind (m := callSpecialIfBound? (.ref x) (Str.ofString "__eq__") [.ref y])
        (PySem.W.ifBound_K X I he hf (wpAny_mono hc (fun r s' hr => by
          obtain ⟨b, rfl, hq⟩ := hr
          repeat (first | exact hq | exact wpAny_pure hq | exact wpAny_truthy_bool hq | (refine wpAny_bind (m := truthy (.bool _)) (wpAny_truthy_bool ?_)) | wp_step)) fun _ _ e => e)))
    | wp_step)
theorem ne_try (X : K.In s.heap) (I : PySem.W.InstAt s.heap x ox C od) (hm : PySem.W.mroIn K C (.type "object") = some true) (hu : A.units + 1 < cLine) (he : PySem.W.findIn K (.ref C) "__eq__" = some (some (.ref f))) (hf : PySem.W.isFn K (.ref f) = true) (hs : PySem.W.findIn K (.ref C) "__ne__" = some (some (.builtin "object.__ne__"))) {Q : Option Value → Shared → Prop}
    (hc : wpAny (model prog w) A.in1 (call (.ref f) [.ref x, .ref y]) (fun v s' => ∃ b, v = .bool b ∧ Q (some (.bool (!b))) s') E s) :
    wpAny (model prog w) A (tryCompare (.ref x) "__ne__" (.ref y)) Q E s := by
  unfold tryCompare
  refine wpAny_bind (ifBound_ne X I hs (wpAny_call (codeAny_call_builtin F.cmp_object.ne.plain F.cmpEntry_ne (PySem.W.check_slot F.cmpKind_ne F.cmpSplit_ne (I.type.andThen (PySem.W.looks_mroIn X hm)) (F.cmpArgs_ne _ _)
    (ne_entry (A := A.in1) X I hu he hf (wpAny_mono hc (fun v s' hv => ?_) fun _ _ e => e))))))
  obtain ⟨b, rfl, hq⟩ := hv
  first | exact ⟨b, rfl, wpAny_pure hq⟩ | exact ⟨b, rfl, wpAny_pure (wpAny_pure hq)⟩ | exact ⟨b, rfl, hq⟩
theorem ne_rich (X : K.In s.heap) (I : PySem.W.InstAt s.heap x ox C od) (hm : PySem.W.mroIn K C (.type "object") = some true) (hu : A.units + 1 < cLine) (he : PySem.W.findIn K (.ref C) "__eq__" = some (some (.ref f))) (hf : PySem.W.isFn K (.ref f) = true) (hs : PySem.W.findIn K (.ref C) "__ne__" = some (some (.builtin "object.__ne__")))
    (hb : PySem.W.Looks (model prog w) s.heap (typeOf (.ref y)) tb) (hn : PySem.W.notFirst K C tb = true) {Q : Value → Shared → Prop}
    (hc : wpAny (model prog w) A.in1 (call (.ref f) [.ref x, .ref y]) (fun v s' => ∃ b, v = .bool b ∧ Q (.bool (!b)) s') E s) : wpAny (model prog w) A (richCompare .NotEq (.ref x) (.ref y)) Q E s := by
  have one : wpAny (model prog w) A (tryCompare (.ref x) "__ne__" (.ref y)) (fun r s' => ∃ b, r = some (.bool b) ∧ Q (.bool b) s') E s := ne_try X I hm hu he hf hs (wpAny_mono hc (fun v s' ⟨b, e, hq⟩ => ⟨b, e, _, rfl, hq⟩) fun _ _ e => e)
  unfold richCompare
  simp only [oneThing_ref]
  refine wpAny_holding (wpAny_bind (wpAny_cRoomFor (Nat.lt_of_succ_lt hu) ?_))
  rw [cmpInfo_NotEq]
  dsimp only
  refine wpAny_bind (I.type.here (wpAny_bind (hb.here ?_)))
  split
  · rename_i q
    have e : PySem.W.subIn K tb (.ref C) = some false := by
      rcases Bool.or_eq_true_iff.mp hn with e | e
      · rw [beq_iff_eq.mp e] at q; simp at q
      · exact beq_iff_eq.mp e
    refine wpAny_bind ((PySem.W.looks_subIn X e).here ?_)
    simp only [Bool.false_eq_true, if_false]
    refine wpAny_bind (wpAny_mono one (fun r s' z => ?_) fun _ _ e => e)
    obtain ⟨b, rfl, hq⟩ := z
    exact wpAny_pure hq
  · refine wpAny_bind (wpAny_pure ?_)
    simp only [Bool.false_eq_true, if_false]
    refine wpAny_bind (wpAny_mono one (fun r s' z => ?_) fun _ _ e => e)
    obtain ⟨b, rfl, hq⟩ := z
    exact wpAny_pure hq
end
section
variable {X : Cx} {ps : List Str} {k : Nat} {sp : Sp} {C : Addr}
/-- x != y, both of the class at C, whose __eq__ tells a bool -/
def rNeO (C : Addr) (sp : Sp) (E : XK) : R2 := fun x y H Q => ∃ a dx fs b dy gs, x = .ref a ∧ y = .ref b ∧ H a = some (.ins C dx fs) ∧ H b = some (.ins C dy gs) ∧ sp [x, y] H (fun v H' => ∃ t : Bool, v = .bl t ∧ Q (.bl (!t)) H') E
theorem op_neO {E : XK} (D : MethOk X.prog X.w X.K X.mg X.base C "__eq__" ps k sp) {n : Nat} (hr : Room n X.A) (hc : PySem.W.notFirst X.K C (.ref C) = true) (hm : PySem.W.mroIn X.K C (.type "object") = some true) (hs : PySem.W.findIn X.K (.ref C) "__ne__" = some (some (.builtin "object.__ne__"))) (hx : Passes (L2.CX X.prog X.w) X E) (hk : k + 1 ≤ n := by omega) : OpR X (compareOp .NotEq) (rNeO C sp E) := by
  intro pins s σ H x y v u Q I rx ry h
  obtain ⟨c, f, fd, M, hb, F, _⟩ := D
  obtain ⟨a, dx, fs, b, dy, gs, rfl, rfl, ha, hb', q⟩ := h
  cases (show v = Value.ref a from rx)
  cases (show u = Value.ref b from ry)
  obtain ⟨od, J⟩ := ins_at I ha
  obtain ⟨od', J'⟩ := ins_at I hb'
  show wpAny _ _ (richCompare .NotEq _ _) _ _ _
  have l : [Value.ref a, Value.ref b].length = ps.length := F.len _ _ _ _ q
  have bd := hb s [.ref a, .ref b] I.kIn (by rw [List.append_nil]; exact l)
  rw [List.append_nil] at bd
  refine ne_rich I.kIn J hm (by have := hr.un; omega) M.at_ M.fn hs J'.type hc ?_
  refine wpAny_call (codeAny_mono (F.run X.A.in1 X.stack s H ⟨[.ref a, .ref b], []⟩ [.ref a, .ref b] [.ref a, .ref b] _ E (Room.in1 (hr.mono hk)) I.env0.in1 bd (.cons rfl (.cons rfl .nil)) q) fun r s' hq => ?_)
  cases r with
  | error e => exact hx pins σ H s e s' I hq
  | ok fl =>
    have go : ∀ u : Value, EP X pins σ (fun v H' => ∃ t : Bool, v = .bl t ∧ Q (.bl (!t)) H') u s' → ∃ b, u = .bool b ∧ EP X pins σ Q (.bool (!b)) s' := fun u ⟨z, H', I', rz, t, ez, qz⟩ => by
      subst ez
      exact ⟨t, rz, .bl (!t), H', I', (show Value.bool (!t) = Value.bool (!t) from rfl), qz⟩
    cases fl with
    | ret u => exact go u (I.after hq)
    | next => exact hq.elim
    | brk => exact hq.elim
    | cont => exact hq.elim
end
end Ld

set_option Elab.async false
set_option linter.all false
set_option maxRecDepth 100000
set_option maxHeartbeats 2000000
namespace Ld
open PySem PySem.Spec PyProof.Rows L2 PySem.SeqAt
open AutoSeq1 (wpAny_loadPart')
open MeetsSeq
/-- an object of an own class, no kind of T -/
def OffT (h : Heap) (b : Addr) (T : String) : Prop := ∃ K : PySem.W.Frag, ∃ C dx od, K.In h ∧ PySem.W.InstAt h b (PySem.W.instObj C dx) C od ∧ PySem.W.subIn K (.ref C) (.type T) = some false
theorem off_isi {M : Model} {A : Around} {E : Value → Shared → Prop} {s : Shared} {b : Addr} {T : String} {Q : Bool → Shared → Prop} (o : OffT s.heap b T) (h : Q false s) : wpAny M A (isInstance (.ref b) (.type T)) Q E s := by
  obtain ⟨K, C, dx, od, X, I, n⟩ := o
  unfold isInstance
  exact wpAny_bind (I.type.here ((PySem.W.looks_subIn X n).here h))
theorem list_eq_off (l b : Addr) : Meets (Builtin.«list.__eq__» ⟨[.ref l, .ref b], []⟩) (fun _ R s => OffT s.heap b "list" ∧ R (.ok (.ret .notImplemented)) s) :=
  .of_wp fun prog w A R s h => by
    obtain ⟨o, h⟩ := h
    obtain ⟨K, C, dx, od, X, I, n⟩ := id o
    have hl : s.heap.get? b = some { cls := .ref C, dict := some dx, data := .plain } := I.at_
    wp_walk using off_isi o, wpAny_load hl
    exact ⟨_, rfl, h⟩
theorem list_ne_off (l b : Addr) : Meets (Builtin.«list.__ne__» ⟨[.ref l, .ref b], []⟩) (fun _ R s => OffT s.heap b "list" ∧ R (.ok (.ret .notImplemented)) s) :=
  .of_wp fun prog w A R s h => by
    obtain ⟨o, h⟩ := h
    obtain ⟨K, C, dx, od, X, I, n⟩ := id o
    have hl : s.heap.get? b = some { cls := .ref C, dict := some dx, data := .plain } := I.at_
    wp_walk using off_isi o, wpAny_load hl
    exact ⟨_, rfl, h⟩
theorem tuple_eq_off (l b : Addr) : Meets (Builtin.«tuple.__eq__» ⟨[.ref l, .ref b], []⟩) (fun _ R s => OffT s.heap b "tuple" ∧ R (.ok (.ret .notImplemented)) s) :=
  .of_wp fun prog w A R s h => by
    obtain ⟨o, h⟩ := h
    obtain ⟨K, C, dx, od, X, I, n⟩ := id o
    have hl : s.heap.get? b = some { cls := .ref C, dict := some dx, data := .plain } := I.at_
    wp_walk using off_isi o, wpAny_load hl
    exact ⟨_, rfl, h⟩
theorem tuple_ne_off (l b : Addr) : Meets (Builtin.«tuple.__ne__» ⟨[.ref l, .ref b], []⟩) (fun _ R s => OffT s.heap b "tuple" ∧ R (.ok (.ret .notImplemented)) s) :=
  .of_wp fun prog w A R s h => by
    obtain ⟨o, h⟩ := h
    obtain ⟨K, C, dx, od, X, I, n⟩ := id o
    have hl : s.heap.get? b = some { cls := .ref C, dict := some dx, data := .plain } := I.at_
    wp_walk using off_isi o, wpAny_load hl
    exact ⟨_, rfl, h⟩
theorem str_eq_off (a : Str) (t : Tok) (b : Addr) : Meets (Builtin.«str.__eq__» ⟨[.str a t, .ref b], []⟩) (fun _ R s => OffT s.heap b "str" ∧ R (.ok (.ret .notImplemented)) s) :=
  .of_wp fun prog w A R s h => by
    obtain ⟨o, h⟩ := h
    obtain ⟨K, C, dx, od, X, I, n⟩ := id o
    have hl : s.heap.get? b = some { cls := .ref C, dict := some dx, data := .plain } := I.at_
    wp_walk using off_isi o, wpAny_load hl
    exact ⟨_, rfl, h⟩
theorem str_ne_off (a : Str) (t : Tok) (b : Addr) : Meets (Builtin.«str.__ne__» ⟨[.str a t, .ref b], []⟩) (fun _ R s => OffT s.heap b "str" ∧ R (.ok (.ret .notImplemented)) s) :=
  .of_wp fun prog w A R s h => by
    obtain ⟨o, h⟩ := h
    obtain ⟨K, C, dx, od, X, I, n⟩ := id o
    have hl : s.heap.get? b = some { cls := .ref C, dict := some dx, data := .plain } := I.at_
    wp_walk using off_isi o, wpAny_load hl
    exact ⟨_, rfl, h⟩
theorem int_eq_off (a : Int) (t : Tok) (b : Addr) : Meets (Builtin.«int.__eq__» ⟨[.int a t, .ref b], []⟩) (fun _ R s => OffT s.heap b "int" ∧ R (.ok (.ret .notImplemented)) s) :=
  .of_wp fun prog w A R s h => by
    obtain ⟨o, h⟩ := h
    obtain ⟨K, C, dx, od, X, I, n⟩ := id o
    have hl : s.heap.get? b = some { cls := .ref C, dict := some dx, data := .plain } := I.at_
    wp_walk using off_isi o, wpAny_load hl
    exact ⟨_, rfl, h⟩
theorem int_ne_off (a : Int) (t : Tok) (b : Addr) : Meets (Builtin.«int.__ne__» ⟨[.int a t, .ref b], []⟩) (fun _ R s => OffT s.heap b "int" ∧ R (.ok (.ret .notImplemented)) s) :=
  .of_wp fun prog w A R s h => by
    obtain ⟨o, h⟩ := h
    obtain ⟨K, C, dx, od, X, I, n⟩ := id o
    have hl : s.heap.get? b = some { cls := .ref C, dict := some dx, data := .plain } := I.at_
    wp_walk using off_isi o, wpAny_load hl
    exact ⟨_, rfl, h⟩
theorem intb_eq_off (a : Bool) (b : Addr) : Meets (Builtin.«int.__eq__» ⟨[.bool a, .ref b], []⟩) (fun _ R s => OffT s.heap b "bool" ∧ R (.ok (.ret .notImplemented)) s) :=
  .of_wp fun prog w A R s h => by
    obtain ⟨o, h⟩ := h
    obtain ⟨K, C, dx, od, X, I, n⟩ := id o
    have hl : s.heap.get? b = some { cls := .ref C, dict := some dx, data := .plain } := I.at_
    wp_walk using off_isi o, wpAny_load hl
    exact ⟨_, rfl, h⟩
theorem intb_ne_off (a : Bool) (b : Addr) : Meets (Builtin.«int.__ne__» ⟨[.bool a, .ref b], []⟩) (fun _ R s => OffT s.heap b "bool" ∧ R (.ok (.ret .notImplemented)) s) :=
  .of_wp fun prog w A R s h => by
    obtain ⟨o, h⟩ := h
    obtain ⟨K, C, dx, od, X, I, n⟩ := id o
    have hl : s.heap.get? b = some { cls := .ref C, dict := some dx, data := .plain } := I.at_
    wp_walk using off_isi o, wpAny_load hl
    exact ⟨_, rfl, h⟩
theorem NoneType_eq_off (b : Addr) : Meets (Builtin.«NoneType.__eq__» ⟨[.none, .ref b], []⟩) (fun _ R s => OffT s.heap b "NoneType" ∧ R (.ok (.ret .notImplemented)) s) :=
  .of_wp fun prog w A R s h => by
    obtain ⟨o, h⟩ := h
    obtain ⟨K, C, dx, od, X, I, n⟩ := id o
    have hl : s.heap.get? b = some { cls := .ref C, dict := some dx, data := .plain } := I.at_
    wp_walk using off_isi o, wpAny_load hl
    exact ⟨_, rfl, h⟩
theorem NoneType_ne_off (b : Addr) : Meets (Builtin.«NoneType.__ne__» ⟨[.none, .ref b], []⟩) (fun _ R s => OffT s.heap b "NoneType" ∧ R (.ok (.ret .notImplemented)) s) :=
  .of_wp fun prog w A R s h => by
    obtain ⟨o, h⟩ := h
    obtain ⟨K, C, dx, od, X, I, n⟩ := id o
    have hl : s.heap.get? b = some { cls := .ref C, dict := some dx, data := .plain } := I.at_
    wp_walk using off_isi o, wpAny_load hl
    exact ⟨_, rfl, h⟩
def sixT : List String := ["NoneType", "bool", "int", "str", "list", "tuple"]
/-- a value of one of the six kinds -/
def OffV (K : PySem.W.Frag) (x : V) (H : Hp) : Prop := x = .non ∨ (∃ b, x = .bl b) ∨ (∃ i, x = .int i) ∨ (∃ z, x = .str z) ∨ ∃ p, x = .ref p ∧ ((∃ xs, SqL K H p xs) ∨ ∃ xs, SqT K H p xs)
/-- such a value declines to be compared -/
structure Decl (prog : Program) (w : World) (s : Shared) (v : Value) (T : String) (b : Addr) : Prop where
  mem : T ∈ sixT
  ty : s.TypeIs v T
  lk : PySem.W.Looks (model prog w) s.heap (typeOf v) (.type T)
  eq : ∃ id, Slot T "__eq__" id ∧ ∀ (A : Around) (E : Value → Shared → Prop) (Q : Value → Shared → Prop), OffT s.heap b T → Q .notImplemented s → wpAny (model prog w) A (call (.builtin id) [v, .ref b]) Q E s
  ne : ∃ id, Slot T "__ne__" id ∧ ∀ (A : Around) (E : Value → Shared → Prop) (Q : Value → Shared → Prop), OffT s.heap b T → Q .notImplemented s → wpAny (model prog w) A (call (.builtin id) [v, .ref b]) Q E s
theorem looks_pure {M : Model} {h : Heap} {v : Value} {T : String} (e : typeOf v = pure (.type T)) : PySem.W.Looks M h (typeOf v) (.type T) := fun A Q E s _ q => wpAny_of_eq e q
theorem decl_of {X : Cx} {pins : List (Addr × Obj)} {σ : L2.St} {H : Hp} {s : Shared} {x : V} {v : Value} {b : Addr} (I : Inv X pins σ H s) (rx : RelV x v) (h : OffV X.K x H) : ∃ T, Decl X.prog X.w s v T b := by
  rcases h with rfl | ⟨k, rfl⟩ | ⟨i, rfl⟩ | ⟨z, rfl⟩ | ⟨p, rfl, h | h⟩
  · obtain rfl : v = Value.none := rx
    exact ⟨"NoneType", by decide, rfl, looks_pure rfl, ⟨_, F.slot_NoneType_eq, fun A E Q o q => call_meets F.slot_NoneType_eq rfl F.entry_NoneType_eq (F.args_NoneType_eq_2 _ _) (NoneType_eq_off b) ⟨o, q⟩⟩,
      ⟨_, F.slot_NoneType_ne, fun A E Q o q => call_meets F.slot_NoneType_ne rfl F.entry_NoneType_ne (F.args_NoneType_ne_2 _ _) (NoneType_ne_off b) ⟨o, q⟩⟩⟩
  · obtain rfl : v = Value.bool k := rx
    exact ⟨"bool", by decide, rfl, looks_pure rfl, ⟨_, F.slot_bool_eq, fun A E Q o q => call_meets F.slot_bool_eq rfl F.entry_int_eq (F.args_int_eq_2 _ _) (intb_eq_off k b) ⟨o, q⟩⟩,
      ⟨_, F.slot_bool_ne, fun A E Q o q => call_meets F.slot_bool_ne rfl F.entry_int_ne (F.args_int_ne_2 _ _) (intb_ne_off k b) ⟨o, q⟩⟩⟩
  · obtain ⟨t, rfl⟩ := rx
    exact ⟨"int", by decide, rfl, looks_pure rfl, ⟨_, F.slot_int_eq, fun A E Q o q => call_meets F.slot_int_eq rfl F.entry_int_eq (F.args_int_eq_2 _ _) (int_eq_off i t b) ⟨o, q⟩⟩,
      ⟨_, F.slot_int_ne, fun A E Q o q => call_meets F.slot_int_ne rfl F.entry_int_ne (F.args_int_ne_2 _ _) (int_ne_off i t b) ⟨o, q⟩⟩⟩
  · obtain ⟨t, rfl⟩ := rx
    exact ⟨"str", by decide, rfl, looks_pure rfl, ⟨_, F.slot_str_eq, fun A E Q o q => call_meets F.slot_str_eq rfl F.entry_str_eq (F.args_str_eq_2 _ _) (str_eq_off z t b) ⟨o, q⟩⟩,
      ⟨_, F.slot_str_ne, fun A E Q o q => call_meets F.slot_str_ne rfl F.entry_str_ne (F.args_str_ne_2 _ _) (str_ne_off z t b) ⟨o, q⟩⟩⟩
  · obtain rfl : v = Value.ref p := rx
    obtain ⟨xs, h⟩ := h
    obtain ⟨its, rv, ⟨o, n, ho, hc, _, _⟩, _⟩ := I.list h
    exact ⟨"list", by decide, ⟨o, ho, hc⟩, fun A Q E s' k q => wpAny_typeOf (v := .ref p) (T := "list") ⟨o, k _ _ ho, hc⟩ q, ⟨_, F.slot_list_eq, fun A E Q o' q => call_meets F.slot_list_eq ⟨o, ho, hc⟩ F.entry_list_eq (F.args_list_eq_2 _ _) (list_eq_off p b) ⟨o', q⟩⟩,
      ⟨_, F.slot_list_ne, fun A E Q o' q => call_meets F.slot_list_ne ⟨o, ho, hc⟩ F.entry_list_ne (F.args_list_ne_2 _ _) (list_ne_off p b) ⟨o', q⟩⟩⟩
  · obtain rfl : v = Value.ref p := rx
    obtain ⟨xs, h⟩ := h
    obtain ⟨its, rv, ⟨o, ho, hc, _⟩, _⟩ := I.tuple h
    exact ⟨"tuple", by decide, ⟨o, ho, hc⟩, fun A Q E s' k q => wpAny_typeOf (v := .ref p) (T := "tuple") ⟨o, k _ _ ho, hc⟩ q, ⟨_, F.slot_tuple_eq, fun A E Q o' q => call_meets F.slot_tuple_eq ⟨o, ho, hc⟩ F.entry_tuple_eq (F.args_tuple_eq_2 _ _) (tuple_eq_off p b) ⟨o', q⟩⟩,
      ⟨_, F.slot_tuple_ne, fun A E Q o' q => call_meets F.slot_tuple_ne ⟨o, ho, hc⟩ F.entry_tuple_ne (F.args_tuple_ne_2 _ _) (tuple_ne_off p b) ⟨o', q⟩⟩⟩
section
variable {prog : Program} {w : World} {A : Around} {E : Value → Shared → Prop} {s : Shared} {K : PySem.W.Frag} {b C f : Addr} {ob : Obj} {od : Option Obj} {v : Value} {T id : String} {op : CmpOp}
theorem rc_off {Q : Value → Shared → Prop} (X : K.In s.heap) (I : PySem.W.InstAt s.heap b ob C od) (hu : A.units < cLine) (ha : s.TypeIs v T) (hsub : PySem.W.subIn K (.ref C) (.type T) = some false) (h1 : Slot T (cmpInfo op).2.1 id)
    (hc1 : ∀ Q' : Value → Shared → Prop, Q' .notImplemented s → wpAny (model prog w) A (call (.builtin id) [v, .ref b]) Q' E s)
    (hc2 : wpAny (model prog w) A (tryCompare (.ref b) (cmpInfo op).2.2 v) (fun r s' => ∃ k, r = some (.bool k) ∧ Q (.bool k) s') E s) : wpAny (model prog w) A (richCompare op v (.ref b)) Q E s := by
  rcases hi : cmpInfo op with ⟨sg, f1, f2⟩
  rw [hi] at h1 hc2
  simp only [ha.oneThing_none, richCompare, hi]
  refine wpAny_holding (wpAny_bind (wpAny_cRoomFor hu (wpAny_bind (wpAny_typeOf ha (wpAny_bind (I.type.here ?_))))))
  have hne : (Value.type T != Value.ref C) = true := rfl
  simp only [if_true, hne]
  refine wpAny_bind ((PySem.W.looks_subIn X hsub).here ?_)
  simp only [if_true, if_false, Bool.not_false, Bool.false_eq_true]
  refine wpAny_bind (m := tryCompare v _ (.ref b)) (wpAny_tryCompare_declines ha h1 (hc1 _ ⟨rfl, ?_⟩))
  refine wpAny_bind (m := tryCompare (.ref b) _ v) (wpAny_mono hc2 (fun r s' z => ?_) fun _ _ e => e)
  obtain ⟨k, rfl, q⟩ := z
  exact wpAny_pure q
theorem eq_tryV {Q : Option Value → Shared → Prop} (X : K.In s.heap) (I : PySem.W.InstAt s.heap b ob C od) (he : PySem.W.findIn K (.ref C) "__eq__" = some (some (.ref f))) (hf : PySem.W.isFn K (.ref f) = true)
    (hc : wpAny (model prog w) A (call (.ref f) [.ref b, v]) (fun u s' => ∃ k, u = .bool k ∧ Q (some (.bool k)) s') E s) : wpAny (model prog w) A (tryCompare (.ref b) "__eq__" v) Q E s := by
  unfold tryCompare
  refine wpAny_bind (PySem.W.ifBound_K X I he hf (wpAny_mono hc (fun u s' hv => ?_) fun _ _ e => e))
  obtain ⟨k, rfl, q⟩ := hv
  exact wpAny_pure q
theorem ne_entryV (X : K.In s.heap) (I : PySem.W.InstAt s.heap b ob C od) (hu : A.units < cLine) (he : PySem.W.findIn K (.ref C) "__eq__" = some (some (.ref f))) (hf : PySem.W.isFn K (.ref f) = true) {Q : Fin → Shared → Prop}
    (hc : wpAny (model prog w) A (call (.ref f) [.ref b, v]) (fun u s' => ∃ k, u = .bool k ∧ Q (.done (.ret (.bool (!k)))) s') E s) :
    wpAny (model prog w) A (Builtin.«object.__ne__» ⟨[.ref b, v], []⟩) Q E s := by
  unfold Builtin.«object.__ne__»
  repeat (first
    | with_reducible refine wpAny_cRoomFor hu ?_
    | (refine wpAny_bind (m := callSpecialIfBound? (.ref b) (Str.ofString "__eq__") [v])
        (PySem.W.ifBound_K X I he hf (wpAny_mono hc (fun r s' hr => by
          obtain ⟨k, rfl, hq⟩ := hr
          repeat (first | exact hq | exact wpAny_pure hq | exact wpAny_truthy_bool hq | (refine wpAny_bind (m := truthy (.bool _)) (wpAny_truthy_bool ?_)) | wp_step)) fun _ _ e => e)))
    | wp_step)
theorem ne_tryV {Q : Option Value → Shared → Prop} (X : K.In s.heap) (I : PySem.W.InstAt s.heap b ob C od) (hm : PySem.W.mroIn K C (.type "object") = some true) (hu : A.units + 1 < cLine) (he : PySem.W.findIn K (.ref C) "__eq__" = some (some (.ref f))) (hf : PySem.W.isFn K (.ref f) = true) (hs : PySem.W.findIn K (.ref C) "__ne__" = some (some (.builtin "object.__ne__")))
    (hc : wpAny (model prog w) A.in1 (call (.ref f) [.ref b, v]) (fun u s' => ∃ k, u = .bool k ∧ Q (some (.bool (!k))) s') E s) : wpAny (model prog w) A (tryCompare (.ref b) "__ne__" v) Q E s := by
  unfold tryCompare
  refine wpAny_bind (ifBound_ne X I hs (wpAny_call (codeAny_call_builtin F.cmp_object.ne.plain F.cmpEntry_ne (PySem.W.check_slot F.cmpKind_ne F.cmpSplit_ne (I.type.andThen (PySem.W.looks_mroIn X hm)) (F.cmpArgs_ne _ _)
    (ne_entryV (A := A.in1) X I hu he hf (wpAny_mono hc (fun u s' hv => ?_) fun _ _ e => e))))))
  obtain ⟨k, rfl, hq⟩ := hv
  first | exact ⟨k, rfl, wpAny_pure hq⟩ | exact ⟨k, rfl, wpAny_pure (wpAny_pure hq)⟩ | exact ⟨k, rfl, hq⟩
theorem ne_richV {Q : Value → Shared → Prop} {tb : Value} (X : K.In s.heap) (I : PySem.W.InstAt s.heap b ob C od) (hm : PySem.W.mroIn K C (.type "object") = some true) (hu : A.units + 1 < cLine) (he : PySem.W.findIn K (.ref C) "__eq__" = some (some (.ref f))) (hf : PySem.W.isFn K (.ref f) = true) (hs : PySem.W.findIn K (.ref C) "__ne__" = some (some (.builtin "object.__ne__")))
    (hb : PySem.W.Looks (model prog w) s.heap (typeOf v) tb) (hn : PySem.W.notFirst K C tb = true)
    (hc : wpAny (model prog w) A.in1 (call (.ref f) [.ref b, v]) (fun u s' => ∃ k, u = .bool k ∧ Q (.bool (!k)) s') E s) : wpAny (model prog w) A (richCompare .NotEq (.ref b) v) Q E s := by
  have one : wpAny (model prog w) A (tryCompare (.ref b) "__ne__" v) (fun r s' => ∃ k, r = some (.bool k) ∧ Q (.bool k) s') E s := ne_tryV X I hm hu he hf hs (wpAny_mono hc (fun u s' ⟨k, e, hq⟩ => ⟨k, e, _, rfl, hq⟩) fun _ _ e => e)
  unfold richCompare
  simp only [oneThing_ref]
  refine wpAny_holding (wpAny_bind (wpAny_cRoomFor (Nat.lt_of_succ_lt hu) ?_))
  rw [cmpInfo_NotEq]
  dsimp only
  refine wpAny_bind (I.type.here (wpAny_bind (hb.here ?_)))
  split
  · rename_i q
    have no : PySem.W.subIn K tb (.ref C) = some false := by
      rcases Bool.or_eq_true_iff.mp hn with z | z
      · rw [beq_iff_eq.mp z] at q; simp at q
      · exact beq_iff_eq.mp z
    refine wpAny_bind ((PySem.W.looks_subIn X no).here ?_)
    simp only [if_false, Bool.false_eq_true]
    refine wpAny_bind (wpAny_mono one (fun r s' z => ?_) fun _ _ e => e)
    obtain ⟨k, rfl, hq⟩ := z
    exact wpAny_pure hq
  · refine wpAny_bind (wpAny_pure ?_)
    simp only [if_false, Bool.false_eq_true]
    refine wpAny_bind (wpAny_mono one (fun r s' z => ?_) fun _ _ e => e)
    obtain ⟨k, rfl, hq⟩ := z
    exact wpAny_pure hq
end
structure OffC (K : PySem.W.Frag) (C : Addr) : Prop where
  l : ∀ T ∈ sixT, PySem.W.notFirst K C (.type T) = true
  r : ∀ T ∈ sixT, PySem.W.subIn K (.ref C) (.type T) = some false
  k : ∀ T ∈ sixT, PySem.W.kitOne K (.type T) (.ref C) = some false
theorem off_first (K : PySem.W.Frag) (C : Addr) : ∀ T ∈ sixT, PySem.W.notFirst K C (.type T) = true := fun T m => by
  simp only [sixT, List.mem_cons, List.not_mem_nil, or_false] at m
  rcases m with rfl | rfl | rfl | rfl | rfl | rfl <;> rfl
theorem off_ty {K : PySem.W.Frag} {H : Hp} {x : V} (h : OffV K x H) : ∃ T ∈ sixT, TyX K H x (.type T) := by
  rcases h with rfl | ⟨k, rfl⟩ | ⟨i, rfl⟩ | ⟨z, rfl⟩ | ⟨p, rfl, ⟨xs, h⟩ | ⟨xs, h⟩⟩
  · exact ⟨"NoneType", by decide, .base .non⟩
  · exact ⟨"bool", by decide, .base (.bl k)⟩
  · exact ⟨"int", by decide, .base (.int i)⟩
  · exact ⟨"str", by decide, .base (.str z)⟩
  · exact ⟨"list", by decide, tyxL h⟩
  · exact ⟨"tuple", by decide, tyxT h⟩
section
variable {X : Cx} {ps : List Str} {k : Nat} {sp : Sp} {C : Addr}
/-- an object of the class at C held against a value of another kind, either way about -/
def rEqX (K : PySem.W.Frag) (C : Addr) (sp : Sp) (E : XK) (ne : Bool) : R2 := fun x y H Q => ∃ a dx fs o, H a = some (.ins C dx fs) ∧ OffV K o H ∧ ((x = .ref a ∧ y = o) ∨ (x = o ∧ y = .ref a)) ∧ sp [.ref a, o] H (fun z H' => ∃ t : Bool, z = .bl t ∧ Q (.bl (if ne = true then !t else t)) H') E
theorem op_eqX {E : XK} (D : MethOk X.prog X.w X.K X.mg X.base C "__eq__" ps k sp) {n : Nat} (hr : Room n X.A) (oc : OffC X.K C) (hx : Passes (L2.CX X.prog X.w) X E) (hk : k ≤ n := by omega) : OpR X (compareOp .Eq) (rEqX X.K C sp E false) := by
  intro pins s σ H x y v u Q I rx ry h
  obtain ⟨c, f, fd, M, hb, F, _⟩ := D
  obtain ⟨a, dx, fs, o, ha, ho, way, q⟩ := h
  obtain ⟨od, J⟩ := ins_at I ha
  obtain ⟨mm, hF⟩ := I.fr
  show wpAny _ _ (richCompare .Eq _ _) _ _ _
  have run : ∀ vo : Value, RelV o vo → wpAny (model X.prog X.w) X.A (call (.ref f) [.ref a, vo]) (fun r s' => ∃ t, r = .bool t ∧ EP X pins σ Q (.bool t) s') X.xe s := fun vo ro => by
    refine wpAny_mono (run_own (E := fun _ => E) (us := [.ref a, vo]) (vs := [.ref a, o]) F (hr.mono hk) hb (fun pins H s e s' I c => hx pins σ H s e s' I c) I (.cons rfl (.cons ro .nil)) q) (fun r s' z => ?_) fun _ _ x => x
    obtain ⟨z', H', I', rz, t, ez, qz⟩ := z
    subst ez
    exact ⟨t, rz, .bl t, H', I', rfl, qz⟩
  rcases way with ⟨rfl, rfl⟩ | ⟨rfl, rfl⟩
  · cases (show v = Value.ref a from rx)
    obtain ⟨T, d⟩ := decl_of (b := a) I ry ho
    refine PySem.W.cmp_K (op := .Eq) (tb := .type T) hr.units0 hF I.ok.mod.kin J d.lk (oc.l T d.mem) M.at_ M.fn (wpAny_mono (run u ry) (fun r s' z => ?_) fun _ _ x => x)
    obtain ⟨t, rfl, z⟩ := z
    exact z
  · cases (show u = Value.ref a from ry)
    obtain ⟨T, d⟩ := decl_of (b := a) I rx ho
    obtain ⟨id, sl, cl⟩ := d.eq
    refine rc_off (op := .Eq) I.kIn J hr.units0 d.ty (oc.r T d.mem) sl (fun Q' q' => cl _ _ Q' ⟨X.K, C, dx, od, I.kIn, J, oc.r T d.mem⟩ q') (eq_tryV I.kIn J M.at_ M.fn (wpAny_mono (run v rx) (fun r s' z => ?_) fun _ _ x => x))
    obtain ⟨t, rfl, z⟩ := z
    exact ⟨t, rfl, t, rfl, z⟩
theorem op_neX {E : XK} (D : MethOk X.prog X.w X.K X.mg X.base C "__eq__" ps k sp) {n : Nat} (hr : Room n X.A) (oc : OffC X.K C) (hm : PySem.W.mroIn X.K C (.type "object") = some true) (hs : PySem.W.findIn X.K (.ref C) "__ne__" = some (some (.builtin "object.__ne__"))) (hx : Passes (L2.CX X.prog X.w) X E) (hk : k + 1 ≤ n := by omega) : OpR X (compareOp .NotEq) (rEqX X.K C sp E true) := by
  intro pins s σ H x y v u Q I rx ry h
  obtain ⟨c, f, fd, M, hb, F, _⟩ := D
  obtain ⟨a, dx, fs, o, ha, ho, way, q⟩ := h
  obtain ⟨od, J⟩ := ins_at I ha
  show wpAny _ _ (richCompare .NotEq _ _) _ _ _
  have run : ∀ vo : Value, RelV o vo → wpAny (model X.prog X.w) X.A.in1 (call (.ref f) [.ref a, vo]) (fun r s' => ∃ t, r = .bool t ∧ EP X pins σ Q (.bool (!t)) s') X.xe s := fun vo ro => by
    have l : [Value.ref a, vo].length = ps.length := F.len _ _ _ _ q
    have bd := hb s [.ref a, vo] I.kIn (by rw [List.append_nil]; exact l)
    rw [List.append_nil] at bd
    refine wpAny_call (codeAny_mono (F.run X.A.in1 X.stack s H ⟨[.ref a, vo], []⟩ [.ref a, vo] [.ref a, o] _ E (Room.in1 (hr.mono hk)) I.env0.in1 bd (.cons rfl (.cons ro .nil)) q) fun r s' hq => ?_)
    match r, hq with
    | .error e, hq => exact hx pins σ H s e s' I hq
    | .ok (.ret r), hq =>
      obtain ⟨z, H', I', rz, t, ez, qz⟩ := I.after hq
      subst ez
      exact ⟨t, rz, .bl (!t), H', I', (show Value.bool (!t) = Value.bool (!t) from rfl), qz⟩
  rcases way with ⟨rfl, rfl⟩ | ⟨rfl, rfl⟩
  · cases (show v = Value.ref a from rx)
    obtain ⟨T, d⟩ := decl_of (b := a) I ry ho
    exact ne_richV I.kIn J hm (by have := hr.un; omega) M.at_ M.fn hs d.lk (oc.l T d.mem) (run u ry)
  · cases (show u = Value.ref a from ry)
    obtain ⟨T, d⟩ := decl_of (b := a) I rx ho
    obtain ⟨id, sl, cl⟩ := d.ne
    refine rc_off (op := .NotEq) I.kIn J hr.units0 d.ty (oc.r T d.mem) sl (fun Q' q' => cl _ _ Q' ⟨X.K, C, dx, od, I.kIn, J, oc.r T d.mem⟩ q') (ne_tryV I.kIn J hm (by have := hr.un; omega) M.at_ M.fn hs (wpAny_mono (run v rx) (fun r s' z => ?_) fun _ _ x => x))
    obtain ⟨t, rfl, z⟩ := z
    exact ⟨t, rfl, !t, rfl, z⟩
end
end Ld

namespace Ld
open PySem PySem.Spec PyProof.Rows L2
set_option Elab.async false
set_option linter.all false
set_option maxRecDepth 100000
set_option maxHeartbeats 4000000
/-! The text by places, and what the top has written. -/
def topS (i : Nat) : Stmt := PySem.Challenge.pw_lettersdesk_k07_equal_books.main.body.getD i (.Pass ⟨0, 0, 0, 0⟩)
abbrev s_NoRule_init : Stmt := inClass (topS 3) 0
abbrev s_is_whole : Stmt := topS 15
theorem sc_is_whole : FnScope ["value"] ["value"] (defScope s_is_whole) := ⟨rfl, rfl, rfl, by decide +kernel, rfl, by decide +kernel, by decide +kernel⟩
abbrev s_is_name : Stmt := topS 16
theorem sc_is_name : FnScope ["value", "letter"] ["value"] (defScope s_is_name) := ⟨rfl, rfl, rfl, by decide +kernel, rfl, by decide +kernel, by decide +kernel⟩
abbrev s_are_desks : Stmt := topS 17
theorem sc_are_desks : FnScope ["value", "name"] ["value"] (defScope s_are_desks) := ⟨rfl, rfl, rfl, by decide +kernel, rfl, by decide +kernel, by decide +kernel⟩
abbrev s_is_rule : Stmt := topS 18
theorem sc_is_rule : FnScope ["value", "desks", "event", "tests", "actions", "test", "action"] ["value", "desks"] (defScope s_is_rule) := ⟨rfl, rfl, rfl, by decide +kernel, rfl, by decide +kernel, by decide +kernel⟩
abbrev s_is_index : Stmt := topS 19
theorem sc_is_index : FnScope ["value", "many"] ["value", "many"] (defScope s_is_index) := ⟨rfl, rfl, rfl, by decide +kernel, rfl, by decide +kernel, by decide +kernel⟩
abbrev s_is_word : Stmt := topS 20
theorem sc_is_word : FnScope ["value", "words"] ["value", "words"] (defScope s_is_word) := ⟨rfl, rfl, rfl, by decide +kernel, rfl, by decide +kernel, by decide +kernel⟩
abbrev s__has_form : Stmt := topS 21
theorem sc__has_form : FnScope ["value", "forms", "desks", "word", "kinds", "worth", "kind"] ["value", "forms", "desks"] (defScope s__has_form) := ⟨rfl, rfl, rfl, by decide +kernel, rfl, by decide +kernel, by decide +kernel⟩
abbrev s__fits : Stmt := topS 22
theorem sc__fits : FnScope ["value", "kind", "desks"] ["value", "kind", "desks"] (defScope s__fits) := ⟨rfl, rfl, rfl, by decide +kernel, rfl, by decide +kernel, by decide +kernel⟩
abbrev s_Book_init : Stmt := inClass (topS 25) 0
theorem sc_Book_init : FnScope ["self", "desks", "rules", "index", "rule"] ["self", "desks", "rules"] (defScope s_Book_init) := ⟨rfl, rfl, rfl, by decide +kernel, rfl, by decide +kernel, by decide +kernel⟩
abbrev s_Book_desks : Stmt := inClass (topS 25) 1
theorem sc_Book_desks : FnScope ["self"] ["self"] (defScope s_Book_desks) := ⟨rfl, rfl, rfl, by decide +kernel, rfl, by decide +kernel, by decide +kernel⟩
abbrev s_Book_rules : Stmt := inClass (topS 25) 2
theorem sc_Book_rules : FnScope ["self"] ["self"] (defScope s_Book_rules) := ⟨rfl, rfl, rfl, by decide +kernel, rfl, by decide +kernel, by decide +kernel⟩
abbrev s_Book_len : Stmt := inClass (topS 25) 3
theorem sc_Book_len : FnScope ["self"] ["self"] (defScope s_Book_len) := ⟨rfl, rfl, rfl, by decide +kernel, rfl, by decide +kernel, by decide +kernel⟩
abbrev s_Book_getitem : Stmt := inClass (topS 25) 4
theorem sc_Book_getitem : FnScope ["self", "at"] ["self", "at"] (defScope s_Book_getitem) := ⟨rfl, rfl, rfl, by decide +kernel, rfl, by decide +kernel, by decide +kernel⟩
abbrev s_Book_iter : Stmt := inClass (topS 25) 5
theorem sc_Book_iter : FnScope ["self"] ["self"] (defScope s_Book_iter) := ⟨rfl, rfl, rfl, by decide +kernel, rfl, by decide +kernel, by decide +kernel⟩
abbrev s_Book_eq : Stmt := inClass (topS 25) 6
theorem sc_Book_eq : FnScope ["self", "other"] ["self", "other"] (defScope s_Book_eq) := ⟨rfl, rfl, rfl, by decide +kernel, rfl, by decide +kernel, by decide +kernel⟩
abbrev s_Book_add : Stmt := inClass (topS 25) 7
theorem sc_Book_add : FnScope ["self", "other"] ["self", "other"] (defScope s_Book_add) := ⟨rfl, rfl, rfl, by decide +kernel, rfl, by decide +kernel, by decide +kernel⟩
abbrev s_Book_without : Stmt := inClass (topS 25) 8
theorem sc_Book_without : FnScope ["self", "indexes", "left_out", "index", "at", "rule"] ["self", "indexes"] (defScope s_Book_without) := ⟨rfl, rfl, rfl, by decide +kernel, rfl, by decide +kernel, by decide +kernel⟩
abbrev s_Book_exchanged : Stmt := inClass (topS 25) 9
theorem sc_Book_exchanged : FnScope ["self", "index", "rules"] ["self", "index"] (defScope s_Book_exchanged) := ⟨rfl, rfl, rfl, by decide +kernel, rfl, by decide +kernel, by decide +kernel⟩
abbrev s_Book__has : Stmt := inClass (topS 25) 10
theorem sc_Book__has : FnScope ["self", "index"] ["self", "index"] (defScope s_Book__has) := ⟨rfl, rfl, rfl, by decide +kernel, rfl, by decide +kernel, by decide +kernel⟩
abbrev s_book_text : Stmt := topS 27
theorem sc_book_text : FnScope ["book", "lines", "rule"] ["book"] (defScope s_book_text) := ⟨rfl, rfl, rfl, by decide +kernel, rfl, by decide +kernel, by decide +kernel⟩
abbrev s__rule_text : Stmt := topS 28
theorem sc__rule_text : FnScope ["rule", "event", "tests", "actions", "done", "action", "asked", "test"] ["rule"] (defScope s__rule_text) := ⟨rfl, rfl, rfl, by decide +kernel, rfl, by decide +kernel, by decide +kernel⟩
abbrev s__test_text : Stmt := topS 29
theorem sc__test_text : FnScope ["test", "text"] ["test"] (defScope s__test_text) := ⟨rfl, rfl, rfl, by decide +kernel, rfl, by decide +kernel, by decide +kernel⟩
abbrev s__action_text : Stmt := topS 30
theorem sc__action_text : FnScope ["action"] ["action"] (defScope s__action_text) := ⟨rfl, rfl, rfl, by decide +kernel, rfl, by decide +kernel, by decide +kernel⟩
abbrev s__law_pot : Stmt := topS 32
theorem sc__law_pot : FnScope ["script", "k", "cell"] ["script", "k"] (defScope s__law_pot) := ⟨rfl, rfl, rfl, by decide +kernel, rfl, by decide +kernel, by decide +kernel⟩
abbrev s__law_dip : Stmt := topS 33
theorem sc__law_dip : FnScope ["pot", "many", "found", "mixed"] ["pot", "many"] (defScope s__law_dip) := ⟨rfl, rfl, rfl, by decide +kernel, rfl, by decide +kernel, by decide +kernel⟩
abbrev s__law_name : Stmt := topS 34
theorem sc__law_name : FnScope ["pot", "some", "size", "k"] ["pot"] (defScope s__law_name) := ⟨rfl, rfl, rfl, by decide +kernel, rfl, by decide +kernel, by decide +kernel⟩
abbrev s__law_desks : Stmt := topS 35
theorem sc__law_desks : FnScope ["pot", "found", "k", "name", "spare"] ["pot"] (defScope s__law_desks) := ⟨rfl, rfl, rfl, by decide +kernel, rfl, by decide +kernel, by decide +kernel⟩
abbrev s__law_test : Stmt := topS 36
theorem sc__law_test : FnScope ["pot", "desks", "way", "wanted"] ["pot", "desks"] (defScope s__law_test) := ⟨rfl, rfl, rfl, by decide +kernel, rfl, by decide +kernel, by decide +kernel⟩
abbrev s__law_action : Stmt := topS 37
theorem sc__law_action : FnScope ["pot", "desks", "way"] ["pot", "desks"] (defScope s__law_action) := ⟨rfl, rfl, rfl, by decide +kernel, rfl, by decide +kernel, by decide +kernel⟩
abbrev s__law_rule : Stmt := topS 38
theorem sc__law_rule : FnScope ["pot", "desks", "event", "tests", "k"] ["pot", "desks"] (defScope s__law_rule) := ⟨rfl, rfl, rfl, by decide +kernel, rfl, by decide +kernel, by decide +kernel⟩
abbrev s__law_rules : Stmt := topS 39
theorem sc__law_rules : FnScope ["pot", "desks", "most", "k"] ["pot", "desks", "most"] (defScope s__law_rules) := ⟨rfl, rfl, rfl, by decide +kernel, rfl, by decide +kernel, by decide +kernel⟩
abbrev s__law_made : Stmt := topS 40
theorem sc__law_made : FnScope ["way", "desks", "rules", "size", "spot", "more"] ["way", "desks", "rules"] (defScope s__law_made) := ⟨rfl, rfl, rfl, by decide +kernel, rfl, by decide +kernel, by decide +kernel⟩
abbrev s__law_alike : Stmt := topS 41
theorem sc__law_alike : FnScope ["found", "due", "k"] ["found", "due"] (defScope s__law_alike) := ⟨rfl, rfl, rfl, by decide +kernel, rfl, by decide +kernel, by decide +kernel⟩
abbrev s__law_near_row : Stmt := topS 42
theorem sc__law_near_row : FnScope ["pot", "row", "most", "way", "spot"] ["pot", "row", "most"] (defScope s__law_near_row) := ⟨rfl, rfl, rfl, by decide +kernel, rfl, by decide +kernel, by decide +kernel⟩
abbrev s__law_near_test : Stmt := topS 43
theorem sc__law_near_test : FnScope ["pot", "desks", "test", "way"] ["pot", "desks", "test"] (defScope s__law_near_test) := ⟨rfl, rfl, rfl, by decide +kernel, rfl, by decide +kernel, by decide +kernel⟩
abbrev s__law_near_rule : Stmt := topS 44
theorem sc__law_near_rule : FnScope ["pot", "desks", "rule", "event", "tests", "actions", "way", "spot"] ["pot", "desks", "rule"] (defScope s__law_near_rule) := ⟨rfl, rfl, rfl, by decide +kernel, rfl, by decide +kernel, by decide +kernel⟩
abbrev s__law_near : Stmt := topS 45
theorem sc__law_near : FnScope ["pot", "desks", "rules", "way", "spot"] ["pot", "desks", "rules"] (defScope s__law_near) := ⟨rfl, rfl, rfl, by decide +kernel, rfl, by decide +kernel, by decide +kernel⟩
abbrev s__law_same : Stmt := topS 46
theorem sc__law_same : FnScope ["one", "other", "due"] ["one", "other", "due"] (defScope s__law_same) := ⟨rfl, rfl, rfl, by decide +kernel, rfl, by decide +kernel, by decide +kernel⟩
abbrev s__law_right : Stmt := topS 47
theorem sc__law_right : FnScope ["pot", "desks", "rules", "book", "way", "plan", "near", "due", "some", "turn", "thing"] ["pot"] (defScope s__law_right) := ⟨rfl, rfl, rfl, by decide +kernel, rfl, by decide +kernel, by decide +kernel⟩
abbrev s_law : Stmt := topS 48
theorem sc_law : FnScope ["script", "k"] ["script"] (defScope s_law) := ⟨rfl, rfl, rfl, by decide +kernel, rfl, by decide +kernel, by decide +kernel⟩
structure Ad where
  DeskError : Addr
  NoDesks : Addr
  NoRule : Addr
  Book : Addr
  STATUSES : Addr
  EVENTS : Addr
  TEST_FORMS : Addr
  ACTION_FORMS : Addr
  NoRule_init : Addr
structure TX (P : Program) (K : PySem.W.Frag) (mg : Str → Option Value) (Z : Ad) : Prop where
  tg_class : PySem.W.specialIn K (.builtin "object.__class__") "__get__" = some (some (.builtin "getset_descriptor.__get__"))
  tt_class : PySem.W.takesIn K (.builtin "object.__class__") = some true
  b_abs : mg "abs" = none
  b_all : mg "all" = none
  b_bool : mg "bool" = none
  b_enumerate : mg "enumerate" = none
  b_int : mg "int" = none
  b_isinstance : mg "isinstance" = none
  b_len : mg "len" = none
  b_list : mg "list" = none
  b_max : mg "max" = none
  b_min : mg "min" = none
  b_range : mg "range" = none
  b_set : mg "set" = none
  b_str : mg "str" = none
  b_super : mg "super" = none
  b_tuple : mg "tuple" = none
  b_zip : mg "zip" = none
  g_LETTERS : ∃ u, mg "LETTERS" = some u ∧ RelV (.str "abcdefghijklmnopqrstuvwxyz") u
  g_LONGEST_NAME : ∃ u, mg "LONGEST_NAME" = some u ∧ RelV (.int 8) u
  g_MOST_DESKS : ∃ u, mg "MOST_DESKS" = some u ∧ RelV (.int 4) u
  g_MOST_TESTS : ∃ u, mg "MOST_TESTS" = some u ∧ RelV (.int 4) u
  g_MOST_ACTIONS : ∃ u, mg "MOST_ACTIONS" = some u ∧ RelV (.int 4) u
  g_MOST_DAYS : ∃ u, mg "MOST_DAYS" = some u ∧ RelV (.int 30) u
  g_STATUSES : mg "STATUSES" = some (.ref Z.STATUSES)
  v_STATUSES : denK K 4 (.ref Z.STATUSES) = some (.tuple [.str "new", .str "open", .str "waiting", .str "closed"])
  g_EVENTS : mg "EVENTS" = some (.ref Z.EVENTS)
  v_EVENTS : denK K 4 (.ref Z.EVENTS) = some (.tuple [.str "letter", .str "answer", .str "day", .str "moved", .str "status", .str "replied"])
  g_TEST_FORMS : mg "TEST_FORMS" = some (.ref Z.TEST_FORMS)
  v_TEST_FORMS : denK K 4 (.ref Z.TEST_FORMS) = some (.tuple [.tuple [.str "status", .str "status", .str "wanted"], .tuple [.str "desk", .str "desk", .str "wanted"], .tuple [.str "answered", .str "wanted"], .tuple [.str "marked", .str "wanted"], .tuple [.str "days", .str "days"]])
  g_ACTION_FORMS : mg "ACTION_FORMS" = some (.ref Z.ACTION_FORMS)
  v_ACTION_FORMS : denK K 4 (.ref Z.ACTION_FORMS) = some (.tuple [.tuple [.str "status", .str "status"], .tuple [.str "desk", .str "desk"], .tuple [.str "reply"], .tuple [.str "mark", .str "wanted"], .tuple [.str "stop"]])
  g_MOST_RULES : ∃ u, mg "MOST_RULES" = some u ∧ RelV (.int 8) u
  cl_Book : Cls K Z.Book
  sf_Book : PySem.W.selfFirst K Z.Book = true
  nf_Book : PySem.W.notFirst K Z.Book (.ref Z.Book) = true
  ty_Book : PySem.W.findIn K (.ref Z.Book) "__class__" = some (some (.builtin "object.__class__"))
  mo_Book : PySem.W.mroIn K Z.Book (.type "object") = some true
  mf_Book_NoneType : PySem.W.mroIn K Z.Book (.type "NoneType") = some false
  kf_Book_NoneType : PySem.W.kitOne K (.type "NoneType") (.ref Z.Book) = some false
  mf_Book_bool : PySem.W.mroIn K Z.Book (.type "bool") = some false
  kf_Book_bool : PySem.W.kitOne K (.type "bool") (.ref Z.Book) = some false
  mf_Book_int : PySem.W.mroIn K Z.Book (.type "int") = some false
  kf_Book_int : PySem.W.kitOne K (.type "int") (.ref Z.Book) = some false
  mf_Book_str : PySem.W.mroIn K Z.Book (.type "str") = some false
  kf_Book_str : PySem.W.kitOne K (.type "str") (.ref Z.Book) = some false
  mf_Book_list : PySem.W.mroIn K Z.Book (.type "list") = some false
  kf_Book_list : PySem.W.kitOne K (.type "list") (.ref Z.Book) = some false
  mf_Book_tuple : PySem.W.mroIn K Z.Book (.type "tuple") = some false
  kf_Book_tuple : PySem.W.kitOne K (.type "tuple") (.ref Z.Book) = some false
  ne_Book : PySem.W.findIn K (.ref Z.Book) "__ne__" = some (some (.builtin "object.__ne__"))
  na_Book__desks : NoAttr K Z.Book "_desks"
  na_Book__rules : NoAttr K Z.Book "_rules"
  c_DeskError : mg "DeskError" = some (.ref Z.DeskError)
  c_NoDesks : mg "NoDesks" = some (.ref Z.NoDesks)
  c_NoRule : mg "NoRule" = some (.ref Z.NoRule)
  c_Book : mg "Book" = some (.ref Z.Book)
  m_DeskError : PySem.W.exmOne K (.ref Z.DeskError) (.ref Z.DeskError) = some true
  x_DeskError : PlainE K Z.DeskError
  m_NoDesks : PySem.W.exmOne K (.ref Z.NoDesks) (.ref Z.NoDesks) = some true
  x_NoDesks : PlainE K Z.NoDesks
  m_NoRule : PySem.W.exmOne K (.ref Z.NoRule) (.ref Z.NoRule) = some true
  x_NoRule : LowIndex.Txt P K mg Z.NoRule Z.NoRule_init
  f_is_whole : FnAt K mg "is_whole" s_is_whole ["value"]
  f_is_name : FnAt K mg "is_name" s_is_name ["value"]
  f_are_desks : FnAt K mg "are_desks" s_are_desks ["value"]
  f_is_rule : FnAt K mg "is_rule" s_is_rule ["value", "desks"]
  f_is_index : FnAt K mg "is_index" s_is_index ["value", "many"]
  f_is_word : FnAt K mg "is_word" s_is_word ["value", "words"]
  f__has_form : FnAt K mg "_has_form" s__has_form ["value", "forms", "desks"]
  f__fits : FnAt K mg "_fits" s__fits ["value", "kind", "desks"]
  in_Book : InitAt K mg Z.Book "Book" "Book.__init__" s_Book_init ["self", "desks", "rules"]
  mt_Book_desks : MethAt K Z.Book "desks" "Book.desks" s_Book_desks ["self"]
  mt_Book_rules : MethAt K Z.Book "rules" "Book.rules" s_Book_rules ["self"]
  mt_Book_len : MethAt K Z.Book "__len__" "Book.__len__" s_Book_len ["self"]
  mt_Book_getitem : MethAt K Z.Book "__getitem__" "Book.__getitem__" s_Book_getitem ["self", "at"]
  mt_Book_iter : MethAt K Z.Book "__iter__" "Book.__iter__" s_Book_iter ["self"]
  mt_Book_eq : MethAt K Z.Book "__eq__" "Book.__eq__" s_Book_eq ["self", "other"]
  mt_Book_add : MethAt K Z.Book "__add__" "Book.__add__" s_Book_add ["self", "other"]
  mt_Book_without : MethAt K Z.Book "without" "Book.without" s_Book_without ["self", "indexes"]
  mt_Book_exchanged : MethAt K Z.Book "exchanged" "Book.exchanged" s_Book_exchanged ["self", "index"]
  mt_Book__has : MethAt K Z.Book "_has" "Book._has" s_Book__has ["self", "index"]
  f_book_text : FnAt K mg "book_text" s_book_text ["book"]
  f__rule_text : FnAt K mg "_rule_text" s__rule_text ["rule"]
  f__test_text : FnAt K mg "_test_text" s__test_text ["test"]
  f__action_text : FnAt K mg "_action_text" s__action_text ["action"]
  f__law_pot : FnAt K mg "_law_pot" s__law_pot ["script", "k"]
  f__law_dip : FnAt K mg "_law_dip" s__law_dip ["pot", "many"]
  f__law_name : FnAt K mg "_law_name" s__law_name ["pot"]
  f__law_desks : FnAt K mg "_law_desks" s__law_desks ["pot"]
  f__law_test : FnAt K mg "_law_test" s__law_test ["pot", "desks"]
  f__law_action : FnAt K mg "_law_action" s__law_action ["pot", "desks"]
  f__law_rule : FnAt K mg "_law_rule" s__law_rule ["pot", "desks"]
  f__law_rules : FnAt K mg "_law_rules" s__law_rules ["pot", "desks", "most"]
  f__law_made : FnAt K mg "_law_made" s__law_made ["way", "desks", "rules"]
  f__law_alike : FnAt K mg "_law_alike" s__law_alike ["found", "due"]
  f__law_near_row : FnAt K mg "_law_near_row" s__law_near_row ["pot", "row", "most"]
  f__law_near_test : FnAt K mg "_law_near_test" s__law_near_test ["pot", "desks", "test"]
  f__law_near_rule : FnAt K mg "_law_near_rule" s__law_near_rule ["pot", "desks", "rule"]
  f__law_near : FnAt K mg "_law_near" s__law_near ["pot", "desks", "rules"]
  f__law_same : FnAt K mg "_law_same" s__law_same ["one", "other", "due"]
  f__law_right : FnAt K mg "_law_right" s__law_right ["pot"]
  f_law : FnAt K mg "law" s_law ["script"]

set_option Elab.async false
set_option linter.all false
set_option maxRecDepth 100000
set_option maxHeartbeats 4000000
/-! kinds: each def's promise. -/
local macro_rules | `(tactic| walk_at "rd") => `(tactic| try simp only [tSeq, tNext, tRet, tRetN, tIfS, tTest, tB, tAnd, tOr, tNot, tAndV, tOrV, tNotV, tOp, tUn, tC, tVar, tCons, tNil, tCall, tCB, tAsg, tDrop, tChain, tIf, tYes, tBreak, tCont, tNever, tFld, sFld, sFldAug, tMeth, tMake, tRaiseF, tMkF, tM1, tOwn2S, tOwnIxS, tXf, tRevL, tMethS, tTup, tLst, tSl, tPart, tNoPart, tPar, tBM, tBM0, tLenSetT, tAug, gName, gTup, gCons, gNil, gStar2, gFld, gSub, rI0, rI, rU, rIxU, rIxS, rIn, rInU, rAddU, rSlU, rLenU, rTupU, rListU, rRep, rEqU_ss, rEqU_ii, rEqU_bb, rEqU_r, rNeU_ss, rNeU_ii, rNeU_bb, rNeU_r, cxOf, L2.start, wipe, List.map_cons, List.map_nil, List.length_cons, List.length_nil, List.replicate, List.cons_append, List.nil_append, List.append_nil, Nat.reduceSub, Nat.reduceAdd, List.getElem?_cons_zero, List.getElem?_cons_succ, List.set_cons_zero, List.set_cons_succ, Option.some.injEq, exists_eq_left', exists_eq_left, exists_eq, exists_and_left, V.bl.injEq, V.int.injEq, V.str.injEq, V.ref.injEq, V.ty.injEq, reduceCtorEq, false_and, and_false, exists_false, false_or, or_false, true_and, and_true, if_true, if_false, Bool.false_eq_true, ite_true, ite_false, reduceIte, decide_true, decide_false, Bool.not_true, Bool.not_false, Bool.not_eq_true, Bool.true_and, Bool.false_and, Bool.and_true, Bool.and_false, List.cons.injEq, and_assoc])
local macro_rules | `(tactic| walk_at "rn") => `(tactic| try simp only [tSeq, tNext, tRet, tRetN, tIfS, tTest, tB, tAnd, tOr, tNot, tAndV, tOrV, tNotV, tOp, tUn, tC, tVar, tCons, tNil, tCall, tCB, tAsg, tDrop, tChain, tIf, tYes, tBreak, tCont, tNever, tFld, sFld, sFldAug, tMeth, tMake, tRaiseF, tMkF, tM1, tOwn2S, tOwnIxS, tXf, tRevL, tMethS, tCallS, tMethK1, tDNewK, tRevT, Ends.cut, tDGet, rNotN, tNGet, sNPut, tNNew, tTup, tLst, tSl, tPart, tNoPart, tPar, tBM, tBM0, tLenSetT, tAug, gName, gTup, gCons, gNil, gStar2, gFld, gSub, rI0, rI, rU, rAddU_ii, tFor_rng, tLc_rng, rRep, rEqU_ss, rEqU_ii, rEqU_bb, rEqU_r, rNeU_ss, rNeU_ii, rNeU_bb, rNeU_r, cxOf, L2.start, wipe, List.map_cons, List.map_nil, List.length_cons, List.length_nil, List.replicate, List.cons_append, List.nil_append, List.append_nil, Nat.reduceSub, Nat.reduceAdd, List.getElem?_cons_zero, List.getElem?_cons_succ, List.set_cons_zero, List.set_cons_succ, Option.some.injEq, exists_eq_left', exists_eq_left, exists_eq, exists_and_left, V.bl.injEq, V.int.injEq, V.str.injEq, V.ref.injEq, V.ty.injEq, reduceCtorEq, false_and, and_false, exists_false, false_or, or_false, true_and, and_true, if_true, if_false, Bool.false_eq_true, ite_true, ite_false, reduceIte, decide_true, decide_false, Bool.not_true, Bool.not_false, Bool.not_eq_true, Bool.true_and, Bool.false_and, Bool.and_true, Bool.and_false, List.cons.injEq, and_assoc])
local macro_rules | `(tactic| walk_at "lay") => `(tactic| (apply lay_new; intro l h qq s n e; rw [← qq]; clear qq))
section
variable {P : Program} {w : World} {K : PySem.W.Frag} {mg : Str → Option Value} {base : Heap} {Z : Ad}
theorem d_is_whole (T : TX P K mg Z) : DefOk P w K mg base "is_whole" ["value"] 1 (spIs K (fun _ => True) isWholeD) := by
  refine T.f_is_whole.ok sc_is_whole spIs_len fun f cdv A outer s H vs Q E hr h => ?_
  obtain ⟨v, d, rfl, hd, _, q⟩ := h
  refine ⟨_, (pss_one (ps_ret (pe_and (pe_callB (kIsi (K := K)) (by rfl) T.b_isinstance (by decide +kernel) (pa_cons (pv 0) (pa_cons (pe_ty (n := "int") T.b_int) pa_nil))) (pe_one (pe_not (pe_callB (kIsi (K := K)) (by rfl) T.b_isinstance (by decide +kernel) (pa_cons (pv 0) (pa_cons (pe_ty (n := "bool") T.b_bool) pa_nil)))))))), ?_⟩
  walk_at "rd"
  refine isi_dp hd ?_
  walk_at "rd"
  have q := q H (Same.refl H)
  rcases isD_int d with ⟨z, rfl⟩ | ⟨z, rfl⟩ | e
  · rw [if_pos (isD_int_t z)]
    refine isi_dp hd ?_
    rw [isD_bool_i]
    exact ⟨_, rfl, q⟩
  · rw [if_pos (isD_int_b z)]
    refine isi_dp hd ?_
    rw [isD_bool_t]
    exact ⟨_, rfl, q⟩
  · rw [e, if_neg Bool.false_ne_true]
    have e2 : isWholeD d = false := by
      cases d <;> first | rfl | (rw [isD_int_t] at e; cases e)
    rw [e2] at q
    exact q
def hasD (n : Nat) : PyData → Bool
  | .int i => decide (0 ≤ i) && decide (i < n)
  | _ => false
def spIndex (K : PySem.W.Frag) : Sp := fun vs H Q _ => ∃ v d n, vs = [v, .int (n : Nat)] ∧ Dp K H v d ∧ ∀ H', Same H H' → Q (.bl (hasD n d)) H'
theorem d_is_index (T : TX P K mg Z) : DefOk P w K mg base "is_index" ["value", "many"] 2 (spIndex K) := by
  refine T.f_is_index.ok sc_is_index (by rintro _ _ _ _ ⟨_, _, _, rfl, _⟩; rfl) fun f cdv A outer s H vs Q E hr h => ?_
  obtain ⟨v, d, n, rfl, hv, q⟩ := h
  refine ⟨_, (pss_one (ps_ret (pe_and (pe_callD (d_is_whole T) hr rfl passL (pa_cons (pv 0) pa_nil)) (pe_one (pe_chain op_le op_lt pe_int (pv 0) (pv 1)))))), ?_⟩
  walk_at "rn"
  refine ⟨_, _, rfl, hv, trivial, fun H1 k1 => ⟨_, rfl, ?_⟩⟩
  have q := q H1 k1
  rcases isD_int d with ⟨z, rfl⟩ | ⟨z, rfl⟩ | e
  · cases dp_int hv
    show if true = true then _ else _
    rw [if_pos rfl]
    refine ⟨_, rfl, ?_⟩
    have hq : hasD n (.int z) = (decide (0 ≤ z) && decide (z < n)) := rfl
    rw [hq] at q
    by_cases c : 0 ≤ z
    · rw [if_pos (decide_eq_true c)]
      rw [decide_eq_true c] at q
      exact ⟨_, rfl, q⟩
    · rw [if_neg (by simp; omega)]
      rw [decide_eq_false c] at q
      exact q
  · exact q
  · have e2 : isWholeD d = false := by
      cases d <;> first | rfl | (rw [isD_int_t] at e; cases e)
    rw [e2, if_neg Bool.false_ne_true]
    cases d <;> first | exact q | (rw [isD_int_t] at e; cases e)
theorem d_is_word (T : TX P K mg Z) : DefOk P w K mg base "is_word" ["value", "words"] 1 (spWord K) := by
  refine T.f_is_word.ok sc_is_word (by rintro _ _ _ _ ⟨_, _, _, _, rfl, _⟩; rfl) fun f cdv A outer s H vs Q E hr h => ?_
  obtain ⟨v, d, a, ws, rfl, hd, hw, q⟩ := h
  refine ⟨_, (pss_one (ps_ret (pe_and (pe_callB (kIsi (K := K)) (by rfl) T.b_isinstance (by decide +kernel) (pa_cons (pv 0) (pa_cons (pe_ty (n := "str") T.b_str) pa_nil))) (pe_one (pe_cmpR (kIn (K := K)) (pv 0) (pv 1) (by rfl)))))), ?_⟩
  walk_at "rd"
  refine isi_dp hd ?_
  walk_at "rd"
  rcases isD_str d with ⟨z, rfl⟩ | e
  · rw [if_pos (isD_str_t z)]
    cases dp_str hd
    walk_at "rd"
    exact ⟨_, .inr hw, rfl, flat_all ws, by rw [inV_strs]; exact q⟩
  · rw [e, if_neg Bool.false_ne_true]
    have e2 : isWordD ws d = false := by
      cases d <;> first | rfl | (rw [isD_str_t] at e; cases e)
    rw [e2] at q
    exact q
theorem d_is_name (T : TX P K mg Z) : DefOk P w K mg base "is_name" ["value"] 1 (spIs K fitsD isNameD) := by
  refine T.f_is_name.ok sc_is_name spIs_len fun f cdv A outer s H vs Q E hr h => ?_
  obtain ⟨v, d, rfl, hd, fit, q⟩ := h
  refine ⟨_, (pss_cons (ps_if (PW.pt (pw_or (pt_not (pt_val (pe_callB (kIsi (K := K)) (by rfl) T.b_isinstance (by decide +kernel) (pa_cons (pv 0) (pa_cons (pe_ty (n := "str") T.b_str) pa_nil))))) (pw_or1 (pt_not (pt_chain op_le op_le pe_int (pe_callB (kLen (K := K)) (by rfl) T.b_len PySem.boot_len (pa_cons (pv 0) pa_nil)) (pe_globE rfl T.g_LONGEST_NAME)))))) (pss_one (ps_ret pe_bl)) pss_nil) (pss_one (ps_ret (pe_callB (kAll (K := K) rfl) (by rfl) T.b_all (by decide +kernel) (pa_cons (pe_lc (own := [("letter", 1)]) rfl sc_is_name.nd (kSeq (K := K) (pv 0)) (blkOk_by (N := ["value", "letter"]) (sc := defScope s_is_name) (own := [("letter", 1)]) (by decide +kernel)) (fun _ _ _ _ _ => (pg_name (i := 1) sc_is_name.nd rfl (by first | exact Or.inl rfl | exact Or.inr rfl))) (fun _ _ _ _ _ => pts_nil) (fun _ _ _ _ _ => (pe_cmpR (kIn (K := K)) (pv 1) (pe_globE rfl T.g_LETTERS) (by rfl)))) pa_nil))))), ?_⟩
  walk_at "rd"
  refine isi_dp hd ?_
  walk_at "rd"
  rcases isD_str d with ⟨z, rfl⟩ | e
  · rw [isD_str_t]
    cases dp_str hd
    walk_at "rd"
    refine ⟨fit, ?_⟩
    have q' : ∀ b : Bool, isNameS z = b → ∀ H', Same H H' → Q (.bl b) H' := fun b e H' s => e ▸ q H' s
    by_cases h1 : 1 ≤ z.length
    · rw [if_pos (decide_eq_true (by omega))]
      by_cases h8 : z.length ≤ 8
      · rw [decide_eq_true (show (z.length : Int) ≤ 8 by omega)]
        walk_at "rd"
        refine lcRelS (z := z) (p := fun _ => False) (fun Q q => ⟨_, rfl, q⟩) (lcAskP (f := fun i => .bl ((z.cps[i]?).any fun c => decide (c ∈ lettersS.cps.toList)))) (Nat.lt_of_le_of_lt h8 (by decide)) ?_ ?_
        · rintro D acc i c H' N hc nD e k _ q
          walk_at "rd"
          exact ⟨_, rfl, q _ _ (Keep.refl _) trivial (by rw [hc]; rfl)⟩
        · rintro D H' ys nD k _ e l r
          refine rAll_of e l r (q' _ ?_ H' k.same)
          have ea := all_at z.cps.toList fun c => decide (c ∈ lettersS.cps.toList)
          unfold isNameS
          rw [decide_eq_true h1, decide_eq_true h8, ← ea]
          simp
      · rw [decide_eq_false (show ¬ (z.length : Int) ≤ 8 by omega)]
        walk_at "rd"
        exact q' false (by unfold isNameS; simp [h8]) H (Same.refl H)
    · rw [if_neg (by simp; omega)]
      exact q' false (by unfold isNameS; simp [h1]) H (Same.refl H)
  · rw [e]
    walk_at "rd"
    have e2 : isNameD d = false := by
      cases d <;> first | rfl | (rw [isD_str_t] at e; cases e)
    have q := q H (Same.refl H)
    rw [e2] at q
    exact q
/-- desks: a tuple of one to four unlike names -/
theorem d_are_desks (T : TX P K mg Z) : DefOk P w K mg base "are_desks" ["value"] 3 (spIs K okDesks areDesksD) := by
  refine T.f_are_desks.ok sc_are_desks spIs_len fun f cdv A outer s H vs Q E hr h => ?_
  obtain ⟨v, d, rfl, hd, fit, q⟩ := h
  refine ⟨_, (pss_cons (ps_if (PW.pt (pw_or (pt_not (pt_val (pe_callB (kIsi (K := K)) (by rfl) T.b_isinstance (by decide +kernel) (pa_cons (pv 0) (pa_cons (pe_ty (n := "tuple") T.b_tuple) pa_nil))))) (pw_or1 (pt_not (pt_chain op_le op_le pe_int (pe_callB (kLen (K := K)) (by rfl) T.b_len PySem.boot_len (pa_cons (pv 0) pa_nil)) (pe_globE rfl T.g_MOST_DESKS)))))) (pss_one (ps_ret pe_bl)) pss_nil) (pss_one (ps_ret (pe_and (pe_callB (kAll (K := K) rfl) (by rfl) T.b_all (by decide +kernel) (pa_cons (pe_lc (own := [("name", 1)]) rfl sc_are_desks.nd (kSeq (K := K) (pv 0)) (blkOk_by (N := ["value", "name"]) (sc := defScope s_are_desks) (own := [("name", 1)]) (by decide +kernel)) (fun _ _ _ _ _ => (pg_name (i := 1) sc_are_desks.nd rfl (by first | exact Or.inl rfl | exact Or.inr rfl))) (fun _ _ _ _ _ => pts_nil) (fun _ _ _ _ _ => (pe_callD (d_is_name T) hr rfl passL (pa_cons (pv 1) pa_nil)))) pa_nil)) (pe_one (pe_cmpR (kEq (K := K) hr.units) (kLenSet (K := K) rfl rfl T.b_len rfl T.b_set (pv 0)) (pe_callB (kLen (K := K)) (by rfl) T.b_len PySem.boot_len (pa_cons (pv 0) pa_nil)) (nomark _))))))), ?_⟩
  walk_at "rd"
  refine isi_dp hd ?_
  walk_at "rd"
  rcases isD_tuple d with ⟨ds, rfl⟩ | e
  · rw [isD_tuple_t]
    obtain ⟨a, xs, rfl, hs, hds⟩ := dp_tup hd
    obtain ⟨fit, uniq⟩ := fit ds rfl
    have ln := dps_len hds
    walk_at "rd"
    refine ⟨xs, .inr hs, ?_⟩
    have q' : ∀ b : Bool, areDesksD (.tuple ds) = b → ∀ H', Same H H' → Q (.bl b) H' := fun b e H' s => e ▸ q H' s
    by_cases h1 : 1 ≤ ds.length
    · rw [if_pos (decide_eq_true (by omega))]
      by_cases h8 : ds.length ≤ 4
      · rw [decide_eq_true (show (xs.length : Int) ≤ 4 by omega)]
        walk_at "rd"
        refine lcRelT (xs := xs) (p := fun _ => False) (fun Q q => ⟨_, rfl, q⟩) (lcAskP (f := fun i => .bl ((ds[i]?).any isNameD))) (Nat.lt_of_le_of_lt (show xs.length ≤ 4 by omega) (by decide)) (fun H' k _ => same_seqT k.same hs) ?_ ?_
        · rintro D acc i x H' N hx nD e k _ q
          obtain ⟨d, hd, hx'⟩ := dps_get hds hx
          walk_at "rd"
          exact ⟨_, _, rfl, dpSame k.same hx', fit d (List.mem_of_getElem? hd), fun H4 s => q _ _ (Keep.of s) trivial (by rw [hd]; rfl)⟩
        · rintro D H' ys nD k _ e l r
          have q1 := all_at ds isNameD
          rw [← ln] at q1
          refine rAll_of e l r ?_
          rw [q1]
          refine ⟨_, rfl, ?_⟩
          by_cases ha : ds.all isNameD = true
          · obtain ⟨ex, el⟩ := names_vals hds ha
            rw [if_pos ha]
            walk_at "rd"
            refine ⟨strsOf ds, ex ▸ same_seqT k.same hs, by omega, uniq ha, xs, .inr (same_seqT k.same hs), ?_⟩
            rw [decide_eq_true (by omega)]
            refine q' true ?_ H' k.same
            unfold areDesksD
            simp [h1, h8, ha, uniq ha]
          · rw [if_neg ha]
            refine q' false ?_ H' k.same
            unfold areDesksD
            simp [h1, h8, ha]
      · rw [decide_eq_false (show ¬ (xs.length : Int) ≤ 4 by omega)]
        walk_at "rd"
        exact q' false (by unfold areDesksD; simp [h8]) H (Same.refl H)
    · rw [if_neg (by simp; omega)]
      exact q' false (by unfold areDesksD; simp [h1]) H (Same.refl H)
  · rw [e]
    walk_at "rd"
    have e2 : areDesksD d = false := by
      cases d <;> first | rfl | (rw [isD_tuple_t] at e; cases e)
    have q := q H (Same.refl H)
    rw [e2] at q
    exact q
theorem d__fits (T : TX P K mg Z) : DefOk P w K mg base "_fits" ["value", "kind", "desks"] 2 (spFits K) := by
  refine T.f__fits.ok sc__fits (by rintro _ _ _ _ ⟨_, _, _, _, _, rfl, _⟩; rfl) fun f cdv A outer s H vs Q E hr h => ?_
  obtain ⟨v, d, k, a, dsk, rfl, hd, ha, q⟩ := h
  refine ⟨_, (pss_cons (ps_if (pt_cmpR (kEq (K := K) hr.units) (pv 1) pe_str (nomark _)) (pss_one (ps_ret (pe_callD (d_is_word T) hr rfl passL (pa_cons (pv 0) (pa_cons (pe_globR rfl T.g_STATUSES) pa_nil))))) pss_nil) (pss_cons (ps_if (pt_cmpR (kEq (K := K) hr.units) (pv 1) pe_str (nomark _)) (pss_one (ps_ret (pe_ifExp (pt_cmpR op_isN (pv 2) pe_non (nomark _)) (pe_callD (d_is_name T) hr rfl passL (pa_cons (pv 0) pa_nil)) (pe_callD (d_is_word T) hr rfl passL (pa_cons (pv 0) (pa_cons (pv 2) pa_nil)))))) pss_nil) (pss_cons (ps_if (pt_cmpR (kEq (K := K) hr.units) (pv 1) pe_str (nomark _)) (pss_one (ps_ret (pe_callB (kIsi (K := K)) (by rfl) T.b_isinstance (by decide +kernel) (pa_cons (pv 0) (pa_cons (pe_ty (n := "bool") T.b_bool) pa_nil))))) pss_nil) (pss_one (ps_ret (pe_and (pe_callD (d_is_whole T) hr rfl passL (pa_cons (pv 0) pa_nil)) (pe_one (pe_chain op_le op_le pe_int (pv 0) (pe_globE rfl T.g_MOST_DAYS))))))))), ?_⟩
  walk_at "rd"
  have q' : ∀ b : Bool, fitsKind dsk k d = b → ∀ H', Same H H' → Q (.bl b) H' := fun b e H' s => e ▸ q H' s
  by_cases k1 : k = "status"
  · obtain ⟨b, eb, hb⟩ := dp_strs (ws := statusesS) (den_ref T.v_STATUSES H)
    cases eb
    rw [decide_eq_true k1]
    walk_at "rd"
    exact ⟨_, _, _, _, rfl, hd, hb, q' _ (by unfold fitsKind; rw [if_pos k1]) H (Same.refl H)⟩
  rw [decide_eq_false k1]
  walk_at "rd"
  by_cases k2 : k = "desk"
  · rw [decide_eq_true k2]
    walk_at "rd"
    exact ⟨_, _, _, _, rfl, hd, ha, q' _ (by unfold fitsKind; rw [if_neg k1, if_pos k2]) H (Same.refl H)⟩
  rw [decide_eq_false k2]
  walk_at "rd"
  by_cases k3 : k = "wanted"
  · rw [decide_eq_true k3]
    walk_at "rd"
    refine isi_dp hd ?_
    refine q' _ ?_ H (Same.refl H)
    unfold fitsKind
    rw [if_neg k1, if_neg k2, if_pos k3]
    cases d <;> simp [isBoolD, isD, tyD]
  rw [decide_eq_false k3]
  walk_at "rd"
  refine ⟨_, _, rfl, hd, trivial, fun H' s1 => ⟨_, rfl, ?_⟩⟩
  have e4 : fitsKind dsk k d = isDaysD d := by unfold fitsKind; rw [if_neg k1, if_neg k2, if_neg k3]
  cases d with
  | int n =>
    cases dp_int hd
    show if true = true then _ else _
    walk_at "rd"
    by_cases h1 : 1 ≤ n
    · rw [if_pos (decide_eq_true h1)]
      exact q' _ (by rw [e4]; simp [isDaysD, h1]) H' s1
    · rw [if_neg (by simpa using h1)]
      exact q' false (by rw [e4]; simp [isDaysD, h1]) H' s1
  | _ =>
    show if false = true then _ else _
    walk_at "rd"
    exact q' false (by rw [e4]; rfl) H' s1
theorem d__has_form (T : TX P K mg Z) : DefOk P w K mg base "_has_form" ["value", "forms", "desks"] 3 (spFormX K) := by
  refine T.f__has_form.ok sc__has_form (by rintro _ _ _ _ ⟨_, _, _, _, _, _, rfl, _⟩; rfl) fun f cdv A outer s H vs Q E hr h => ?_
  obtain ⟨v, d, vf, fs, a, dsk, rfl, hd, few, hf, hfs, ha, q⟩ := h
  refine ⟨_, (pss_cons (ps_if (PW.pt (pw_or (pt_not (pt_val (pe_callB (kIsi (K := K)) (by rfl) T.b_isinstance (by decide +kernel) (pa_cons (pv 0) (pa_cons (pe_ty (n := "tuple") T.b_tuple) pa_nil))))) (pw_or (pt_cmpR (kEq (K := K) hr.units) (pe_callB (kLen (K := K)) (by rfl) T.b_len PySem.boot_len (pa_cons (pv 0) pa_nil)) pe_int (nomark _)) (pw_or1 (pt_not (pt_val (pe_callB (kIsi (K := K)) (by rfl) T.b_isinstance (by decide +kernel) (pa_cons (pe_ix (kIx (K := K)) (pv 0) pe_int (fun _ _ => rfl)) (pa_cons (pe_ty (n := "str") T.b_str) pa_nil))))))))) (pss_one (ps_ret pe_bl)) pss_nil) (pss_cons (ps_for (passes_of rfl) rfl (kSeq (K := K) (pv 1)) (kStar (K := K) rfl (pg_name (i := 3) sc__has_form.nd rfl (by first | exact Or.inl rfl | exact Or.inr rfl)) (pg_name (i := 4) sc__has_form.nd rfl (by first | exact Or.inl rfl | exact Or.inr rfl))) (pss_one (ps_if (PW.pt (pw_and (pt_cmpR (kEq (K := K) hr.units) (pv 3) (pe_ix (kIx (K := K)) (pv 0) pe_int (fun _ _ => rfl)) (nomark _)) (pw_and1 (pt_cmpR (kEq (K := K) hr.units) (pe_callB (kLen (K := K)) (by rfl) T.b_len PySem.boot_len (pa_cons (pv 4) pa_nil)) (pe_op op_sub (pe_callB (kLen (K := K)) (by rfl) T.b_len PySem.boot_len (pa_cons (pv 0) pa_nil)) pe_int) (nomark _))))) (pss_one (ps_ret (pe_callB (kAll (K := K) rfl) (by rfl) T.b_all (by decide +kernel) (pa_cons (pe_lc (own := [("worth", 5), ("kind", 6)]) rfl sc__has_form.nd (kZip (K := K) rfl T.b_zip (pa_cons (pe_slice (kSl (K := K)) (pv 0) (po_some pe_int) po_none) (pa_cons (pv 4) pa_nil))) (blkOk_by (N := ["value", "forms", "desks", "word", "kinds", "worth", "kind"]) (sc := defScope s__has_form) (own := [("worth", 5), ("kind", 6)]) (by decide +kernel)) (fun _ _ _ _ _ => (kTup (K := K) (n := 2) rfl (pgs_cons (pg_name (i := 5) sc__has_form.nd rfl (by first | exact Or.inl rfl | exact Or.inr rfl)) (pgs_cons (pg_name (i := 6) sc__has_form.nd rfl (by first | exact Or.inl rfl | exact Or.inr rfl)) pgs_nil)))) (fun _ _ _ _ _ => pts_nil) (fun _ _ _ _ _ => (pe_callD (d__fits T) hr rfl passL (pa_cons (pv 5) (pa_cons (pv 6) (pa_cons (pv 2) pa_nil)))))) pa_nil)))) pss_nil))) (pss_one (ps_ret pe_bl)))), ?_⟩
  walk_at "rd"
  have q' : ∀ b : Bool, hasForm fs dsk d = b → ∀ H', Same H H' → Q (.bl b) H' := fun b e H' s => e ▸ q H' s
  refine isi_dq hd ?_
  rcases isD_tuple d with ⟨ds, rfl⟩ | e
  · rw [isD_tuple_t]
    obtain ⟨b, xs, rfl, hs, hds⟩ := dp_tup hd.tup
    have few := few ds rfl
    have ln := dps_len hds
    walk_at "rd"
    refine ⟨xs, .inr hs, ?_⟩
    cases hds with
    | nil => exact q' false rfl H (Same.refl H)
    | @cons x0 xr d0 rest h0 hr' =>
      have n0 : ¬ (((x0 :: xr).length : Int) = 0) := by simp; omega
      rw [decide_eq_false n0]
      walk_at "rd"
      refine ⟨x0 :: xr, .inr hs, x0, atI_nat (j := 0) rfl, isi_dp h0 ?_⟩
      rcases isD_str d0 with ⟨z, rfl⟩ | e0
      · rw [isD_str_t]
        cases dp_str h0
        walk_at "rd"
        obtain ⟨af, fvs, rfl, hfa, hfv⟩ := dp_tup hf
        have lf := dps_len hfv
        have lr := dps_len hr'
        refine forT (xs := fvs) (fun Q q => ⟨_, rfl, q⟩) hfa (fun i σ H' => ∃ o3 o4, σ = [some (.ref b), some (.ref af), some (.ref a), o3, o4, none, none] ∧ Same H H' ∧ ∀ f ∈ fs.take i, formIs z rest.length f = false)
          ⟨none, none, rfl, Same.refl H, fun f hm => by simp at hm⟩ (fun i σ H' _ ⟨_, _, _, s, _⟩ => same_seqT s hfa) ?_ ?_
        · rintro i x σ H' hx ⟨o3, o4, rfl, s1, no⟩
          obtain ⟨fd, hfd, hx'⟩ := dps_get hfv hx
          rw [List.getElem?_map, Option.map_eq_some_iff] at hfd
          obtain ⟨fm, hfm, rfl⟩ := hfd
          obtain ⟨fne, flen⟩ := hfs fm (List.mem_of_getElem? hfm)
          cases fm with
          | nil => exact absurd rfl fne
          | cons w0 ks =>
            obtain ⟨ax, rfl, hax⟩ := dp_strs hx'
            walk_at "rd"
            refine ⟨.str w0, ks.map V.str, same_seqT s1 hax, by simpa using flen, fun D hD => ?_⟩
            have s2 : Same H (upd H' D (.lst (ks.map V.str))) := Same.new s1 (s1.free hD)
            refine ⟨_, .inr (same_seqT s2 hs), _, atI_nat (j := 0) rfl, ?_⟩
            walk_at "rd"
            have last : ∀ g, g ∈ fs.take (i + 1) → formIs z rest.length (w0 :: ks) = false → formIs z rest.length g = false := fun g hg e => by
              rw [List.take_succ_eq_append_getElem (List.getElem?_eq_some_iff.mp hfm).1, List.mem_append, List.mem_singleton] at hg
              rcases hg with hg | hg
              · exact no g hg
              · rw [hg, (List.getElem?_eq_some_iff.mp hfm).2]
                exact e
            by_cases hw : w0 = z
            · rw [decide_eq_true hw]
              walk_at "rd"
              refine ⟨_, .inl (SqL.of upd_same), _, .inr (same_seqT s2 hs), ?_⟩
              by_cases hn : ks.length = rest.length
              · rw [decide_eq_true (by simp; omega)]
                walk_at "rd"
                refine tLc_of (.inr ?_)
                show tCons _ _ _ _ _
                walk_at "rd"
                refine .inr (.inl (sl_tail (same_seqT s2 hs) fun p hp => ?_))
                have s3 := Same.new (o := .tup xr) s2 (s2.free hp)
                have hD3 : upd (upd H' D (.lst (ks.map V.str))) p (.tup xr) D = some (.lst (ks.map V.str)) := by
                  rw [upd_ne (ne_of_none upd_same hp)]
                  exact upd_same
                walk_at "rd"
                refine ⟨xr, SqT.of upd_same, ks.map V.str, SqL.of hD3, lcRelZt (n := rest.length) (by rw [List.length_map, lr, hn, Nat.min_self]) (lcAskP (f := fun i => .bl (((rest.zip ks)[i]?).any fun p => fitsKind dsk p.2 p.1)) |> fun L => ⟨L.at_, L.ini, L.lay, L.st⟩) (Nat.lt_of_le_of_lt (show rest.length ≤ 1000 by simp at few; omega) (by decide)) (fun H4 s4 => ⟨same_seqT s4 (SqT.of upd_same), s4.seq (SqL.of hD3)⟩) ?_ ?_⟩
                · rintro E' acc j x y H4 T' N ex ey nE eE s4 hT r
                  rw [List.getElem?_map, Option.map_eq_some_iff] at ey
                  obtain ⟨kj, ekj, rfl⟩ := ey
                  obtain ⟨dj, edj, hx3⟩ := dps_get hr' ex
                  walk_at "rd"
                  exact ⟨_, SqT.of hT, rfl, _, _, rfl, _, _, rfl, rfl, _, _, _, _, _, rfl, dpSame (s3.trans s4) hx3, same_seqT (s3.trans s4) ha, fun H5 s5 => r _ _ s5 (by rw [List.getElem?_zip_eq_some.mpr (show rest[j]? = some (dj, kj).1 ∧ ks[j]? = some (dj, kj).2 from ⟨edj, ekj⟩)]; rfl)⟩
                · rintro E' H4 zs nE s4 e4 l4 r4
                  refine rAll_of e4 l4 r4 ?_
                  rw [fits_at dsk rest ks hn]
                  refine q' _ ?_ H4 (s3.trans s4)
                  show (match fs.find? (formIs z rest.length) with | some f => (rest.zip f.tail).all fun p => fitsKind dsk p.2 p.1 | none => false) = _
                  rw [find_at no hfm (by simp [formIs, hw, hn])]
                  rfl
              · rw [decide_eq_false (by simp; omega)]
                walk_at "rd"
                exact ⟨s2, fun g hg => last g hg (by simp [formIs, hn])⟩
            · rw [decide_eq_false hw]
              walk_at "rd"
              exact ⟨s2, fun g hg => last g hg (by simp [formIs, hw])⟩
        · rintro σ H' ⟨o3, o4, rfl, s1, no⟩
          walk_at "rd"
          refine q' false ?_ H' s1
          show (match fs.find? (formIs z rest.length) with | some f => _ | none => false) = false
          rw [List.find?_eq_none.mpr fun f hm => by
            have e := no f (by rw [lf, List.length_map, List.take_length]; exact hm)
            rw [e]
            exact Bool.false_ne_true]
      · rw [e0]
        walk_at "rd"
        exact q' false (by cases d0 <;> first | rfl | (rw [isD_str_t] at e0; cases e0)) H (Same.refl H)
  · rw [e]
    walk_at "rd"
    exact q' false (by cases d <;> first | rfl | (rw [isD_tuple_t] at e; cases e)) H (Same.refl H)
theorem d_is_rule (T : TX P K mg Z) : DefOk P w K mg base "is_rule" ["value", "desks"] 4 (spDesk K okRule isRuleD) := by
  refine T.f_is_rule.ok sc_is_rule spDesk_len fun f cdv A outer s H vs Q E hr h => ?_
  obtain ⟨v, d, a, dsk, rfl, hd, ok, ha, q⟩ := h
  refine ⟨_, (pss_cons (ps_if (PW.pt (pw_or (pt_not (pt_val (pe_callB (kIsi (K := K)) (by rfl) T.b_isinstance (by decide +kernel) (pa_cons (pv 0) (pa_cons (pe_ty (n := "tuple") T.b_tuple) pa_nil))))) (pw_or1 (pt_cmpR (kNe (K := K) hr.units) (pe_callB (kLen (K := K)) (by rfl) T.b_len PySem.boot_len (pa_cons (pv 0) pa_nil)) pe_int (nomark _))))) (pss_one (ps_ret pe_bl)) pss_nil) (pss_cons (ps_asg (pv 0) (kTup (K := K) (n := 3) rfl (pgs_cons (pg_name (i := 2) sc_is_rule.nd rfl (by first | exact Or.inl rfl | exact Or.inr rfl)) (pgs_cons (pg_name (i := 3) sc_is_rule.nd rfl (by first | exact Or.inl rfl | exact Or.inr rfl)) (pgs_cons (pg_name (i := 4) sc_is_rule.nd rfl (by first | exact Or.inl rfl | exact Or.inr rfl)) pgs_nil))))) (pss_one (ps_ret (pe_and (pe_callD (d_is_word T) hr rfl passL (pa_cons (pv 2) (pa_cons (pe_globR rfl T.g_EVENTS) pa_nil))) (pe_and (pe_callB (kIsi (K := K)) (by rfl) T.b_isinstance (by decide +kernel) (pa_cons (pv 3) (pa_cons (pe_ty (n := "tuple") T.b_tuple) pa_nil))) (pe_and (pe_cmpR op_le (pe_callB (kLen (K := K)) (by rfl) T.b_len PySem.boot_len (pa_cons (pv 3) pa_nil)) (pe_globE rfl T.g_MOST_TESTS) (nomark _)) (pe_and (pe_callB (kAll (K := K) rfl) (by rfl) T.b_all (by decide +kernel) (pa_cons (pe_lc (own := [("test", 5)]) rfl sc_is_rule.nd (kSeq (K := K) (pv 3)) (blkOk_by (N := ["value", "desks", "event", "tests", "actions", "test", "action"]) (sc := defScope s_is_rule) (own := [("test", 5)]) (by decide +kernel)) (fun _ _ _ _ _ => (pg_name (i := 5) sc_is_rule.nd rfl (by first | exact Or.inl rfl | exact Or.inr rfl))) (fun _ _ _ _ _ => pts_nil) (fun _ _ _ _ _ => (pe_callD (d__has_form T) hr rfl passL (pa_cons (pv 5) (pa_cons (pe_globR rfl T.g_TEST_FORMS) (pa_cons (pv 1) pa_nil)))))) pa_nil)) (pe_and (pe_callB (kIsi (K := K)) (by rfl) T.b_isinstance (by decide +kernel) (pa_cons (pv 4) (pa_cons (pe_ty (n := "tuple") T.b_tuple) pa_nil))) (pe_and (pe_chain op_le op_le pe_int (pe_callB (kLen (K := K)) (by rfl) T.b_len PySem.boot_len (pa_cons (pv 4) pa_nil)) (pe_globE rfl T.g_MOST_ACTIONS)) (pe_one (pe_callB (kAll (K := K) rfl) (by rfl) T.b_all (by decide +kernel) (pa_cons (pe_lc (own := [("action", 6)]) rfl sc_is_rule.nd (kSeq (K := K) (pv 4)) (blkOk_by (N := ["value", "desks", "event", "tests", "actions", "test", "action"]) (sc := defScope s_is_rule) (own := [("action", 6)]) (by decide +kernel)) (fun _ _ _ _ _ => (pg_name (i := 6) sc_is_rule.nd rfl (by first | exact Or.inl rfl | exact Or.inr rfl))) (fun _ _ _ _ _ => pts_nil) (fun _ _ _ _ _ => (pe_callD (d__has_form T) hr rfl passL (pa_cons (pv 6) (pa_cons (pe_globR rfl T.g_ACTION_FORMS) (pa_cons (pv 1) pa_nil)))))) pa_nil))))))))))))), ?_⟩
  walk_at "rd"
  have q' : ∀ b : Bool, isRuleD dsk d = b → ∀ H', Same H H' → Q (.bl b) H' := fun b e H' s => e ▸ q H' s
  refine isi_dp hd ?_
  rcases isD_tuple d with ⟨ds, rfl⟩ | e
  · rw [isD_tuple_t]
    obtain ⟨b, xs, rfl, hs, hds⟩ := dp_tup hd
    have ln := dps_len hds
    walk_at "rd"
    refine ⟨xs, .inr hs, ?_⟩
    by_cases h3 : ds.length = 3
    · rw [decide_eq_true (by omega)]
      walk_at "rd"
      refine ⟨xs, hs, by omega, ?_⟩
      cases hds with
      | nil => cases h3
      | @cons v0 _ d0 _ h0 hds =>
      cases hds with
      | nil => cases h3
      | @cons v1 _ d1 _ h1 hds =>
      cases hds with
      | nil => cases h3
      | @cons v2 _ d2 _ h2 hds =>
      cases hds with
      | @cons _ _ _ _ _ hds => simp at h3
      | nil =>
        refine ⟨_, _, rfl, _, _, rfl, _, _, rfl, rfl, ?_⟩
        obtain ⟨be, eb, hbe⟩ := dp_strs (ws := eventsS) (den_ref T.v_EVENTS H)
        cases eb
        refine ⟨_, _, _, _, rfl, h0, hbe, _, rfl, ?_⟩
        by_cases ev : isWordD eventsS d0 = true
        · rw [if_pos ev]
          refine isi_dp h1 ⟨_, rfl, ?_⟩
          rcases isD_tuple d1 with ⟨ts, rfl⟩ | e1
          · rw [isD_tuple_t]
            obtain ⟨b1, x1, rfl, hs1, hds1⟩ := dp_tup h1
            have ln1 := dps_len hds1
            have okT := ok.1 d0 ts d2 rfl
            walk_at "rd"
            refine ⟨x1, .inr hs1, ?_⟩
            by_cases c1 : ts.length ≤ 4
            · rw [decide_eq_true (by omega)]
              walk_at "rd"
              refine lcRelT (xs := x1) (fun Q q => ⟨_, rfl, q⟩) (lcAskP (f := fun i => .bl ((ts[i]?).any (hasForm testForms dsk)))) (Nat.lt_of_le_of_lt (show x1.length ≤ 4 by omega) (by decide)) (fun H' k _ => same_seqT k.same hs1) ?_ ?_
              · rintro D acc i x H' N hx nD e k _ r
                obtain ⟨d, hd, hx'⟩ := dps_get hds1 hx
                walk_at "rd"
                exact ⟨_, _, _, _, _, _, rfl, .of (dpSame k.same hx'), fun ds e => okT d (List.mem_of_getElem? hd) ds e, (show Dp K H' _ (formsD testForms) from den_ref T.v_TEST_FORMS H'), forms_ok.1, same_seqT k.same ha, fun H4 s => r _ _ (Keep.of s) trivial (by rw [hd]; rfl)⟩
              · rintro D H1 ys nD k1 _ e l r
                have q1 := all_at ts (hasForm testForms dsk)
                rw [← ln1] at q1
                refine rAll_of e l r ?_
                rw [q1]
                refine ⟨_, rfl, ?_⟩
                by_cases c2 : ts.all (hasForm testForms dsk) = true
                · rw [if_pos c2]
                  refine isi_dp (dpSame k1.same h2) ⟨_, rfl, ?_⟩
                  rcases isD_tuple d2 with ⟨as, rfl⟩ | e2
                  · rw [isD_tuple_t]
                    obtain ⟨b2, x2, rfl, hs2, hds2⟩ := dp_tup h2
                    have ln2 := dps_len hds2
                    have okA := ok.2 d0 (.tuple ts) as rfl
                    walk_at "rd"
                    refine ⟨x2, .inr (same_seqT k1.same hs2), ?_⟩
                    by_cases c3 : 1 ≤ as.length
                    · rw [if_pos (decide_eq_true (by omega))]
                      by_cases c4 : as.length ≤ 4
                      · rw [if_pos (decide_eq_true (by omega))]
                        refine lcRelT (xs := x2) (fun Q q => ⟨_, rfl, q⟩) (lcAskP (f := fun i => .bl ((as[i]?).any (hasForm actionForms dsk)))) (Nat.lt_of_le_of_lt (show x2.length ≤ 4 by omega) (by decide)) (fun H' k _ => same_seqT (k1.same.trans k.same) hs2) ?_ ?_
                        · rintro D acc i x H' N hx nD e k _ r
                          obtain ⟨d, hd, hx'⟩ := dps_get hds2 hx
                          walk_at "rd"
                          exact ⟨_, _, _, _, _, _, rfl, .of (dpSame (k1.same.trans k.same) hx'), fun ds e => okA d (List.mem_of_getElem? hd) ds e, (show Dp K H' _ (formsD actionForms) from den_ref T.v_ACTION_FORMS H'), forms_ok.2.1, same_seqT (k1.same.trans k.same) ha, fun H4 s => r _ _ (Keep.of s) trivial (by rw [hd]; rfl)⟩
                        · rintro D H2 ys nD k2 _ e l r
                          have q2 := all_at as (hasForm actionForms dsk)
                          rw [← ln2] at q2
                          refine rAll_of e l r ?_
                          rw [q2]
                          exact q' _ (by simp [isRuleD, ev, c1, c2, c3, c4]) H2 (k1.same.trans k2.same)
                      · rw [if_neg (by simp; omega)]
                        exact q' false (by simp [isRuleD, c4]) H1 k1.same
                    · rw [if_neg (by simp; omega)]
                      exact q' false (by simp [isRuleD, c3]) H1 k1.same
                  · rw [e2]
                    walk_at "rd"
                    exact q' false (by cases d2 <;> first | rfl | (rw [isD_tuple_t] at e2; cases e2)) H1 k1.same
                · rw [if_neg c2]
                  refine q' false ?_ H1 k1.same
                  unfold isRuleD
                  split
                  · rename_i e
                    simp only [PyData.tuple.injEq, List.cons.injEq, and_true] at e
                    obtain ⟨_, e, _⟩ := e
                    subst e
                    simp [c2]
                  · rfl
            · rw [decide_eq_false (by omega)]
              walk_at "rd"
              refine q' false ?_ H (Same.refl H)
              unfold isRuleD
              split
              · rename_i e
                simp only [PyData.tuple.injEq, List.cons.injEq, and_true] at e
                obtain ⟨_, e, _⟩ := e
                subst e
                simp [c1]
              · rfl
          · rw [e1]
            walk_at "rd"
            exact q' false (by cases d1 <;> first | rfl | (rw [isD_tuple_t] at e1; cases e1)) H (Same.refl H)
        · rw [if_neg ev]
          refine q' false ?_ H (Same.refl H)
          unfold isRuleD
          split
          · rename_i e
            simp only [PyData.tuple.injEq, List.cons.injEq, and_true] at e
            obtain ⟨e, _⟩ := e
            subst e
            simp [ev]
          · rfl
    · rw [decide_eq_false (by omega)]
      walk_at "rd"
      refine q' false ?_ H (Same.refl H)
      unfold isRuleD
      split
      · rename_i e
        injection e with e
        rw [e] at h3
        exact absurd rfl h3
      · rfl
  · rw [e]
    walk_at "rd"
    exact q' false (by cases d <;> first | rfl | (rw [isD_tuple_t] at e; cases e)) H (Same.refl H)
end

set_option Elab.async false
set_option linter.all false
set_option maxRecDepth 100000
set_option maxHeartbeats 4000000
/-! Book: made, asked, put together. -/
section
variable {P : Program} {w : World} {K : PySem.W.Frag} {mg : Str → Option Value} {base : Heap} {Z : Ad}
/-- the first item that is no rule, or the ninth -/
def firstBad (dsk : List Str) : Nat → List PyData → Option Nat
  | _, [] => none
  | i, r :: rs => if 8 ≤ i ∨ isRuleD dsk r = false then some i else firstBad dsk (i + 1) rs
inductive BkR where
  | ok (dsk : List Str) (rs : List PyData)
  | noDesks
  | noRule (d : PyData)
def desksOf : PyData → List Str
  | .tuple ds => strsOf ds
  | _ => []
def bookD (d r : PyData) : BkR := if areDesksD d then match r with
    | .tuple rs => match firstBad (desksOf d) 0 rs with
      | some i => .noRule (.int i)
      | none => .ok (desksOf d) rs
    | _ => .noRule (.int 0)
  else .noDesks
def goodBook (dsk : List Str) (rs : List PyData) : Prop := areDesksD (.tuple (dsk.map PyData.str)) = true ∧ firstBad dsk 0 rs = none
/-- a book -/
def BookIs (K : PySem.W.Frag) (C : Addr) (H : Hp) (b : V) (dsk : List Str) (rs : List PyData) : Prop :=
  ∃ a dx vd vr, b = .ref a ∧ H a = some (.ins C dx [("_desks", vd), ("_rules", vr)]) ∧ Dp K H vd (.tuple (dsk.map PyData.str)) ∧ Dp K H vr (.tuple rs) ∧ goodBook dsk rs
/-- what is raised: NoRule with a value; NoDesks -/
def NoRuleE (K : PySem.W.Frag) (NR : Addr) (H : Hp) (E : XK) (d : PyData) : Prop := ∀ H' a v, Same H H' → H' a = some (.xd [("index", v)]) → Dp K H' v d → E (.ref NR) (some a) H'
def NoDesksE (ND : Addr) (H : Hp) (E : XK) : Prop := ∀ H', Same H H' → E (.ref ND) none H'
def okRules (r : PyData) : Prop := ∀ rs, r = .tuple rs → rs.length ≤ 1000 ∧ ∀ e ∈ rs, okRule e
def spInit (K : PySem.W.Frag) (C ND NR : Addr) : Sp := fun vs H Q E => ∃ x dx vd vr d r, vs = [.ref x, vd, vr] ∧ H x = some (.ins C dx []) ∧ Dp K H vd d ∧ Dp K H vr r ∧ okDesks d ∧ okRules r ∧
  match bookD d r with
  | .ok dsk rs => ∀ H', Keep (fun b => b = x) H H' → H' x = some (.ins C dx [("_desks", vd), ("_rules", vr)]) → Q .non H'
  | .noDesks => NoDesksE ND H E
  | .noRule i => NoRuleE K NR H E i
theorem strs_of : ∀ ds : List PyData, ds.all isNameD = true → ds = (strsOf ds).map PyData.str
  | [], _ => rfl
  | d :: ds, h => by
    rw [List.all_cons, Bool.and_eq_true] at h
    obtain ⟨h1, h2⟩ := h
    cases d <;> first | exact Bool.noConfusion h1 | skip
    show _ = _ :: (strsOf ds).map PyData.str
    rw [← strs_of ds h2]
theorem desks_of {d : PyData} (h : areDesksD d = true) : d = .tuple ((desksOf d).map PyData.str) := by
  cases d with
  | tuple ds =>
    unfold areDesksD at h
    simp only [Bool.and_eq_true] at h
    show PyData.tuple ds = .tuple ((strsOf ds).map PyData.str)
    rw [← strs_of ds h.1.2]
  | _ => exact Bool.noConfusion h
theorem raised {K : PySem.W.Frag} {NR : Addr} {H H1 : Hp} {E : XK} {d : PyData} {v : V} (q : NoRuleE K NR H E d) (k : Same H H1) (hv : Dp K H1 v d) (a : Addr) (n : H1 a = none) : E (.ref NR) (some a) (upd H1 a (.xd [("index", v)])) :=
  q _ a v (Same.put k n) upd_same (dpSame (Same.put (Same.refl H1) n) hv)
theorem mk_Book (T : TX P K mg Z) : MakeOk P w K mg base Z.Book "Book" ["self", "desks", "rules"] 5 (spInit K Z.Book Z.NoDesks Z.NoRule) := by
  refine T.in_Book.ok sc_Book_init (by rintro _ _ _ _ ⟨_, _, _, _, _, _, rfl, _⟩; rfl) fun f cdv A outer s H vs Q E hr h => ?_
  obtain ⟨x, dx, vd, vr, d, r, rfl, hx, hd, hv, od, ok, q⟩ := h
  refine ⟨_, (pss_cons (ps_if (pt_not (pt_val (pe_callD (d_are_desks T) hr rfl passL (pa_cons (pv 1) pa_nil)))) (pss_one (ps_raise rfl (takes_of rfl rfl rfl rfl) (pmk_own PySem.F.excBase_ValueError T.x_NoDesks.q T.c_NoDesks T.x_NoDesks.k (raises_own T.x_NoDesks.e T.x_NoDesks.t) rfl))) pss_nil) (pss_cons (ps_if (pt_not (pt_val (pe_callB (kIsi (K := K)) (by rfl) T.b_isinstance (by decide +kernel) (pa_cons (pv 2) (pa_cons (pe_ty (n := "tuple") T.b_tuple) pa_nil))))) (pss_one (LowIndex.ps_raise rfl T.x_NoRule T.c_NoRule hr (takes_of rfl rfl rfl rfl) (pa_cons pe_int pa_nil))) pss_nil) (pss_cons (ps_for (passes_of rfl) rfl (kEnum (K := K) rfl T.b_enumerate (pa_cons (pv 2) pa_nil)) (kTup (K := K) (n := 2) rfl (pgs_cons (pg_name (i := 3) sc_Book_init.nd rfl (by first | exact Or.inl rfl | exact Or.inr rfl)) (pgs_cons (pg_name (i := 4) sc_Book_init.nd rfl (by first | exact Or.inl rfl | exact Or.inr rfl)) pgs_nil))) (pss_one (ps_if (PW.pt (pw_or (pt_cmpR op_ge (pv 3) (pe_globE rfl T.g_MOST_RULES) (nomark _)) (pw_or1 (pt_not (pt_val (pe_callD (d_is_rule T) hr rfl passL (pa_cons (pv 4) (pa_cons (pv 1) pa_nil)))))))) (pss_one (LowIndex.ps_raise rfl T.x_NoRule T.c_NoRule hr (takes_of rfl rfl rfl rfl) (pa_cons (pv 3) pa_nil))) pss_nil))) (pss_cons (ps_fld (pv 0) (pv 1) rfl) (pss_one (ps_fld (pv 0) (pv 2) rfl)))))), ?_⟩
  walk_at "rd"
  refine ⟨_, _, rfl, hd, od, fun H1 k1 => ?_⟩
  by_cases cd : areDesksD d = true
  · rw [cd]
    walk_at "rd"
    have ed := desks_of cd
    have hd' := hd
    rw [ed] at hd'
    obtain ⟨ad, rfl, hds⟩ := dp_strs hd'
    unfold bookD at q
    rw [if_pos cd] at q
    refine isi_dp (dpSame k1 hv) ⟨_, rfl, ?_⟩
    rcases isD_tuple r with ⟨rs, rfl⟩ | e
    · rw [isD_tuple_t]
      walk_at "rd"
      obtain ⟨ar, xs, rfl, hrs, hda⟩ := dp_tup hv
      have ln := dps_len hda
      obtain ⟨lr, okr⟩ := ok rs rfl
      dsimp only at q
      refine forEt (xs := xs) (a := ar) (fun Q q => ⟨_, rfl, q⟩) (same_seqT k1 hrs) (fun i σ H' => (∃ u v, σ = [some (.ref x), some (.ref ad), some (.ref ar), u, v]) ∧ Same H H' ∧ firstBad (desksOf d) 0 rs = firstBad (desksOf d) i (rs.drop i)) ⟨⟨_, _, rfl⟩, k1, by rw [List.drop_zero]⟩ (fun i σ H' _ p => same_seqT p.2.1 hrs) ?_ ?_
      · rintro i y σ H' N hy ⟨⟨u, v, rfl⟩, k, e⟩ n
        obtain ⟨d1, hd1, hy'⟩ := dps_get hda hy
        walk_at "rd"
        have dr : rs.drop i = d1 :: rs.drop (i + 1) := by
          obtain ⟨hi, e⟩ := List.getElem?_eq_some_iff.mp hd1
          rw [← e]
          exact List.drop_eq_getElem_cons hi
        have k2 : Same H (upd H' N (.tup [.int (i : Nat), y])) := Same.put k n
        have bad : (8 ≤ i ∨ isRuleD (desksOf d) d1 = false) → firstBad (desksOf d) 0 rs = some i := fun c => by
          rw [e, dr]
          unfold firstBad
          rw [if_pos c]
        have rz : (8 ≤ i ∨ isRuleD (desksOf d) d1 = false) → ∀ H2, Same H H2 → ∀ a, H2 a = none → E (.ref Z.NoRule) (some a) (upd H2 a (.xd [("index", .int (i : Nat))])) := fun c H2 k2 a na => by
          rw [bad c] at q
          exact raised (d := .int (i : Nat)) q k2 (.int _) a na
        refine ⟨_, .inl (.inl upd_same), rfl, _, _, rfl, _, _, rfl, rfl, _, rfl, ?_⟩
        by_cases c8 : 8 ≤ i
        · rw [if_pos (decide_eq_true (by omega))]
          exact rz (.inl c8) _ k2
        · rw [if_neg (by simp; omega)]
          refine ⟨_, _, _, _, rfl, dpSame k2 hy', okr d1 (List.mem_of_getElem? hd1), same_seqT k2 hds, fun H3 k3 => ?_⟩
          refine ⟨_, rfl, ?_⟩
          by_cases cr : isRuleD (desksOf d) d1 = true
          · rw [cr]
            refine ⟨⟨_, rfl⟩, k2.trans k3, ?_⟩
            rw [e, dr]
            conv => lhs; unfold firstBad
            rw [if_neg (by rw [cr]; simp; omega)]
          · rw [Bool.not_eq_true] at cr
            rw [cr]
            exact rz (.inr cr) H3 (k2.trans k3)
      · rintro σ H' ⟨⟨u, v, rfl⟩, k, e⟩
        walk_at "rd"
        have good : firstBad (desksOf d) 0 rs = none := by
          rw [e, List.drop_of_length_le (by omega)]
          rfl
        rw [good] at q
        refine ⟨_, _, _, k _ _ hx, T.cl_Book, T.na_Book__desks, by decide, _, _, _, upd_same, T.cl_Book, T.na_Book__rules, by simp [putF], ?_⟩
        refine q _ (fun b o nb e => ?_) upd_same
        rw [upd_ne nb, upd_ne nb]
        exact k b o e
    · rw [e]
      walk_at "rd"
      intro a n
      refine raised (K := K) (d := .int 0) ?_ k1 (.int 0) a n
      cases r <;> first | exact q | (rw [isD_tuple_t] at e; cases e)
  · rw [Bool.not_eq_true] at cd
    rw [cd]
    walk_at "rd"
    unfold bookD at q
    rw [if_neg (by rw [cd]; exact Bool.false_ne_true)] at q
    exact q H1 k1
/-! ### what good books are -/
theorem strs_map : ∀ dsk : List Str, strsOf (dsk.map PyData.str) = dsk
  | [] => rfl
  | z :: r => congrArg (z :: ·) (strs_map r)
theorem bookD_ok {d r : PyData} {dsk : List Str} {rs : List PyData} (h : bookD d r = .ok dsk rs) : d = .tuple (dsk.map PyData.str) ∧ r = .tuple rs ∧ goodBook dsk rs := by
  unfold bookD at h
  split at h
  · rename_i c
    split at h
    · split at h
      · cases h
      · rename_i g
        cases h
        exact ⟨desks_of c, rfl, by rw [← desks_of c]; exact c, g⟩
    · cases h
  · cases h
theorem firstBad_none (dsk : List Str) : ∀ (rs : List PyData) (i : Nat), firstBad dsk i rs = none → (rs ≠ [] → i + rs.length ≤ 8) ∧ ∀ e ∈ rs, isRuleD dsk e = true
  | [], _, _ => ⟨fun h => absurd rfl h, fun _ h => nomatch h⟩
  | r :: rs, i, h => by
    unfold firstBad at h
    split at h
    · cases h
    · rename_i c
      obtain ⟨c1, c2⟩ := not_or.mp c
      obtain ⟨h1, h2⟩ := firstBad_none dsk rs (i + 1) h
      refine ⟨fun _ => ?_, fun e he => ?_⟩
      · cases rs with
        | nil => simp; omega
        | cons a b =>
          have := h1 (by simp)
          simp only [List.length_cons] at this ⊢
          omega
      · rcases List.mem_cons.mp he with rfl | he
        · simpa using c2
        · exact h2 e he
theorem good_len {dsk : List Str} {rs : List PyData} (g : goodBook dsk rs) : rs.length ≤ 8 := by
  cases rs with
  | nil => simp
  | cons a b =>
    have := (firstBad_none dsk _ 0 g.2).1 (by simp)
    omega
theorem form_small {fs : List (List Str)} {dsk : List Str} {e : PyData} (hf : ∀ f ∈ fs, f ≠ [] ∧ f.length ≤ 1000) (h : hasForm fs dsk e = true) : okForm e := by
  rintro ds rfl
  unfold hasForm at h
  split at h
  · rename_i e1
    cases e1
    split at h
    · rename_i f hq
      have m := List.mem_of_find?_eq_some hq
      have p := List.find?_some hq
      unfold formIs at p
      simp only [Bool.and_eq_true, decide_eq_true_eq] at p
      have l := (hf f m).2
      cases f with
      | nil => simp at p
      | cons a b =>
        simp only [List.tail_cons, List.length_cons] at p l ⊢
        omega
    · cases h
  · cases h
theorem rule_ok {dsk : List Str} {e : PyData} (h : isRuleD dsk e = true) : okRule e := by
  unfold isRuleD at h
  split at h
  · rename_i ev ts as
    simp only [Bool.and_eq_true] at h
    obtain ⟨⟨⟨⟨⟨_, _⟩, ht⟩, _⟩, _⟩, ha⟩ := h
    rw [List.all_eq_true] at ht ha
    refine ⟨fun e ts' x eq t m => ?_, fun e x as' eq t m => ?_⟩
    · cases eq
      exact form_small forms_ok.1 (ht t m)
    · cases eq
      exact form_small forms_ok.2.1 (ha t m)
  · cases h
theorem good_rules {dsk : List Str} {rs : List PyData} (g : goodBook dsk rs) : ∀ e ∈ rs, okRule e := fun e m => rule_ok ((firstBad_none dsk rs 0 g.2).2 e m)
theorem desks_ok {d : PyData} (h : areDesksD d = true) : okDesks d := by
  rintro ds rfl
  unfold areDesksD at h
  simp only [Bool.and_eq_true, decide_eq_true_eq, List.all_eq_true] at h
  refine ⟨fun e m => ?_, fun _ => h.2⟩
  have := h.1.2 e m
  cases e <;> first | trivial | skip
  rename_i z
  unfold isNameD isNameS at this
  simp only [Bool.and_eq_true, decide_eq_true_eq] at this
  show z.length ≤ sizeLine
  rw [sizeLine_eq]
  omega
theorem good_desks {dsk : List Str} {rs : List PyData} (g : goodBook dsk rs) : okDesks (.tuple (dsk.map PyData.str)) := desks_ok g.1
theorem BookIs.same {K : PySem.W.Frag} {C : Addr} {H H' : Hp} {b : V} {dsk : List Str} {rs : List PyData} (h : BookIs K C H b dsk rs) (k : Same H H') : BookIs K C H' b dsk rs := by
  obtain ⟨a, dx, vd, vr, e, ha, hd, hr, g⟩ := h
  exact ⟨a, dx, vd, vr, e, k _ _ ha, dpSame k hd, dpSame k hr, g⟩
/-- what comes of Book(..) -/
def OutB (K : PySem.W.Frag) (C ND NR : Addr) (H : Hp) (res : BkR) (Q : VK) (E : XK) : Prop := match res with
  | .ok dsk rs => ∀ b H', Same H H' → BookIs K C H' b dsk rs → Q b H'
  | .noDesks => NoDesksE ND H E
  | .noRule i => NoRuleE K NR H E i
theorem OutB.same {K : PySem.W.Frag} {C ND NR : Addr} {H H' : Hp} {res : BkR} {Q : VK} {E : XK} (o : OutB K C ND NR H res Q E) (k : Same H H') : OutB K C ND NR H' res Q E := by
  cases res with
  | ok dsk rs => exact fun b H2 k2 h => o b H2 (k.trans k2) h
  | noDesks => exact fun H2 k2 => o H2 (k.trans k2)
  | noRule i => exact fun H2 a v k2 h1 h2 => o H2 a v (k.trans k2) h1 h2
theorem made {K : PySem.W.Frag} {C ND NR : Addr} {H : Hp} {vd vr : V} {d r : PyData} {Q : VK} {E : XK} (hd : Dp K H vd d) (hr : Dp K H vr r) (od : okDesks d) (okr : okRules r) (o : OutB K C ND NR H (bookD d r) Q E) (x dx : Addr) (n1 : H x = none) (n2 : H dx = none) (ne : dx ≠ x) :
    spInit K C ND NR [.ref x, vd, vr] (upd (upd H dx (.own x)) x (.ins C dx [])) (fun v H2 => v = .non ∧ Q (.ref x) H2) E := by
  have n3 : upd H dx (.own x) x = none := by rw [upd_ne (Ne.symm ne)]; exact n1
  have k : Same H (upd (upd H dx (.own x)) x (.ins C dx [])) := Same.put (Same.put (Same.refl H) n2) n3
  refine ⟨x, dx, vd, vr, d, r, rfl, upd_same, dpSame k hd, dpSame k hr, od, okr, ?_⟩
  cases e : bookD d r with
  | ok dsk rs =>
    rw [e] at o
    obtain ⟨e1, e2, g⟩ := bookD_ok e
    subst e1
    subst e2
    intro H' kk hx
    have s : Same H H' := fun b u q => kk b u (ne_of_none q n1) (k b u q)
    exact ⟨rfl, o _ H' s ⟨x, dx, vd, vr, rfl, hx, dpSame s hd, dpSame s hr, g⟩⟩
  | noDesks =>
    rw [e] at o
    exact fun H' s => o H' (k.trans s)
  | noRule i =>
    rw [e] at o
    exact fun H' a v s h1 h2 => o H' a v (k.trans s) h1 h2
theorem madeA {K : PySem.W.Frag} {C ND NR : Addr} {H : Hp} {vd vr : V} {d r : PyData} {Q : Addr → Hp → Prop} {E : XK} (hd : Dp K H vd d) (hr : Dp K H vr r) (od : okDesks d) (okr : okRules r) (o : OutB K C ND NR H (bookD d r) (fun b H2 => ∀ a, b = .ref a → Q a H2) E) (x dx : Addr) (n1 : H x = none) (n2 : H dx = none) (ne : dx ≠ x) :
    spInit K C ND NR [.ref x, vd, vr] (upd (upd H dx (.own x)) x (.ins C dx [])) (fun v H2 => v = .non ∧ Q x H2) E := by
  have n3 : upd H dx (.own x) x = none := by rw [upd_ne (Ne.symm ne)]; exact n1
  have k : Same H (upd (upd H dx (.own x)) x (.ins C dx [])) := Same.put (Same.put (Same.refl H) n2) n3
  refine ⟨x, dx, vd, vr, d, r, rfl, upd_same, dpSame k hd, dpSame k hr, od, okr, ?_⟩
  cases e : bookD d r with
  | ok dsk rs =>
    rw [e] at o
    obtain ⟨e1, e2, g⟩ := bookD_ok e
    subst e1
    subst e2
    intro H' kk hx
    have s : Same H H' := fun b u q => kk b u (ne_of_none q n1) (k b u q)
    exact ⟨rfl, o _ H' s ⟨x, dx, vd, vr, rfl, hx, dpSame s hd, dpSame s hr, g⟩ x rfl⟩
  | noDesks =>
    rw [e] at o
    exact fun H' s => o H' (k.trans s)
  | noRule i =>
    rw [e] at o
    exact fun H' a v s h1 h2 => o H' a v (k.trans s) h1 h2
/-! ### the methods -/
def spBk (K : PySem.W.Frag) (C : Addr) (g : List Str → List PyData → PyData) : Sp := fun vs H Q _ => ∃ b dsk rs, vs = [b] ∧ BookIs K C H b dsk rs ∧ ∀ v, Dp K H v (g dsk rs) → Q v H
theorem spBk_len {K : PySem.W.Frag} {C : Addr} {g : List Str → List PyData → PyData} : ∀ vs H Q E, spBk K C g vs H Q E → vs.length = 1 := by
  rintro _ _ _ _ ⟨_, _, _, rfl, _⟩
  rfl
theorem m_Book_desks (T : TX P K mg Z) : MethOk P w K mg base Z.Book "desks" ["self"] 1 (spBk K Z.Book fun dsk _ => .tuple (dsk.map PyData.str)) := by
  refine T.mt_Book_desks.ok T.cl_Book sc_Book_desks spBk_len fun f cdv A outer s H vs Q E hr h => ?_
  obtain ⟨b, dsk, rs, rfl, ⟨a, dx, vd, vr, rfl, ha, hd, hrr, g⟩, q⟩ := h
  refine ⟨_, (pss_one (ps_ret (kFld (K := K) (pv 0) rfl))), ?_⟩
  walk_at "rn"
  exact ⟨_, _, _, ha, T.cl_Book, T.na_Book__desks, _, rfl, q _ hd⟩
theorem m_Book_rules (T : TX P K mg Z) : MethOk P w K mg base Z.Book "rules" ["self"] 1 (spBk K Z.Book fun _ rs => .tuple rs) := by
  refine T.mt_Book_rules.ok T.cl_Book sc_Book_rules spBk_len fun f cdv A outer s H vs Q E hr h => ?_
  obtain ⟨b, dsk, rs, rfl, ⟨a, dx, vd, vr, rfl, ha, hd, hrr, g⟩, q⟩ := h
  refine ⟨_, (pss_one (ps_ret (kFld (K := K) (pv 0) rfl))), ?_⟩
  walk_at "rn"
  exact ⟨_, _, _, ha, T.cl_Book, T.na_Book__rules, _, rfl, q _ hrr⟩
def spHas (K : PySem.W.Frag) (C : Addr) : Sp := fun vs H Q _ => ∃ b dsk rs v d, vs = [b, v] ∧ BookIs K C H b dsk rs ∧ Dp K H v d ∧ ∀ H', Same H H' → Q (.bl (hasD rs.length d)) H'
theorem m_Book__has (T : TX P K mg Z) : MethOk P w K mg base Z.Book "_has" ["self", "index"] 3 (spHas K Z.Book) := by
  refine T.mt_Book__has.ok T.cl_Book sc_Book__has (by rintro _ _ _ _ ⟨_, _, _, _, _, rfl, _⟩; rfl) fun f cdv A outer s H vs Q E hr h => ?_
  obtain ⟨b, dsk, rs, v, d, rfl, bk, hv, q⟩ := h
  refine ⟨_, (pss_one (ps_ret (pe_callD (d_is_index T) hr rfl passL (pa_cons (pv 1) (pa_cons (pe_callB (kLen (K := K)) (by rfl) T.b_len PySem.boot_len (pa_cons (kFld (K := K) (pv 0) rfl) pa_nil)) pa_nil))))), ?_⟩
  walk_at "rn"
  obtain ⟨a, dx, vd, vr, rfl, ha, hd, hrr, g⟩ := bk
  obtain ⟨ar, xs, rfl, hrs, hda⟩ := dp_tup hrr
  have ln := dps_len hda
  refine ⟨_, rfl, _, _, _, ha, T.cl_Book, T.na_Book__rules, _, rfl, len_t hrs ?_⟩
  rw [ln]
  exact ⟨_, _, _, rfl, hv, q⟩
theorem m_Book_len (T : TX P K mg Z) : MethOk P w K mg base Z.Book "__len__" ["self"] 1 (spBk K Z.Book fun _ rs => .int rs.length) := by
  refine T.mt_Book_len.ok T.cl_Book sc_Book_len spBk_len fun f cdv A outer s H vs Q E hr h => ?_
  obtain ⟨b, dsk, rs, rfl, ⟨a, dx, vd, vr, rfl, ha, hd, hrr, g⟩, q⟩ := h
  refine ⟨_, (pss_one (ps_ret (pe_callB (kLen (K := K)) (by rfl) T.b_len PySem.boot_len (pa_cons (kFld (K := K) (pv 0) rfl) pa_nil)))), ?_⟩
  walk_at "rn"
  obtain ⟨ar, xs, rfl, hrs, hda⟩ := dp_tup hrr
  have ln := dps_len hda
  refine ⟨_, _, _, ha, T.cl_Book, T.na_Book__rules, _, rfl, len_t hrs ?_⟩
  rw [ln]
  exact q _ (.int _)
theorem name_ok {z : Str} (h : isNameS z = true) : PyData.strOk z = true := by
  unfold isNameS at h
  simp only [Bool.and_eq_true, List.all_eq_true, decide_eq_true_eq] at h
  unfold PyData.strOk
  rw [Array.all_eq_true_iff_forall_mem]
  intro c m
  have l : ∀ c ∈ lettersS.cps.toList, c < 0x110000 := by decide +kernel
  exact decide_eq_true (l c (h.2 c (Array.mem_toList_iff.mpr m)))
theorem strs_lay : ∀ dsk : List Str, (dsk.map PyData.str).all isNameD = true → PyData.canLayAll0 (dsk.map PyData.str) = true ∧ PyData.depthAll (dsk.map PyData.str) = 0
  | [], _ => ⟨by simp [PyData.canLayAll0], by simp [PyData.depthAll]⟩
  | z :: r, h => by
    rw [List.map_cons, List.all_cons, Bool.and_eq_true] at h
    obtain ⟨h1, h2⟩ := strs_lay r h.2
    have := name_ok h.1
    exact ⟨by simp [PyData.canLayAll0, PyData.canLay0, this, h1], by simp [PyData.depthAll, PyData.depth, h2]⟩
theorem desks_shaped {dsk : List Str} (h : areDesksD (.tuple (dsk.map PyData.str)) = true) : SeqAt.shaped (.tuple (dsk.map PyData.str)) = true := by
  unfold areDesksD at h
  simp only [Bool.and_eq_true] at h
  obtain ⟨h1, h2⟩ := strs_lay dsk h.1.2
  unfold SeqAt.shaped
  simp [PyData.canLay0, PyData.depth, h1, h2]
theorem eqv_strs : ∀ a b : List Str, PyData.eqv (.tuple (a.map PyData.str)) (.tuple (b.map PyData.str)) = decide (a = b) := by
  intro a b
  show PyData.eqvAll (a.map PyData.str) (b.map PyData.str) = _
  induction a generalizing b with
  | nil => cases b <;> simp [PyData.eqvAll]
  | cons x a ih =>
    cases b with
    | nil => simp [PyData.eqvAll]
    | cons y b =>
      rw [List.map_cons, List.map_cons]
      rw [PyData.eqvAll, ih, PyData.eqv]
      by_cases e : x = y <;> by_cases e2 : a = b <;> simp [e, e2]
def spAddB (K : PySem.W.Frag) (C ND NR : Addr) : Sp := fun vs H Q E => ∃ b c dsk rs dsk' rs', vs = [b, c] ∧ BookIs K C H b dsk rs ∧ BookIs K C H c dsk' rs' ∧ OutB K C ND NR H (if dsk = dsk' then bookD (.tuple (dsk.map PyData.str)) (.tuple (rs ++ rs')) else .noDesks) Q E
theorem m_Book_add (T : TX P K mg Z) : MethOk P w K mg base Z.Book "__add__" ["self", "other"] 7 (spAddB K Z.Book Z.NoDesks Z.NoRule) := by
  refine T.mt_Book_add.ok T.cl_Book sc_Book_add (by rintro _ _ _ _ ⟨_, _, _, _, _, _, rfl, _⟩; rfl) fun f cdv A outer s H vs Q E hr h => ?_
  obtain ⟨b, c, dsk, rs, dsk', rs', rfl, ⟨a, dx, vd, vr, rfl, ha, hd, hrr, g⟩, ⟨a', dx', vd', vr', rfl, ha', hd', hrr', g'⟩, q⟩ := h
  refine ⟨_, (pss_cons (ps_if (pt_cmpR (kNe (K := K) hr.units) (kFld (K := K) (pv 0) rfl) (kFld (K := K) (pv 1) rfl) (nomark _)) (pss_one (ps_raise rfl (takes_of rfl rfl rfl rfl) (pmk_own PySem.F.excBase_ValueError T.x_NoDesks.q T.c_NoDesks T.x_NoDesks.k (raises_own T.x_NoDesks.e T.x_NoDesks.t) rfl))) pss_nil) (pss_one (ps_ret (pe_makeD (mk_Book T) hr rfl (passes_call (takes_of rfl rfl rfl rfl) (fun _ _ _ _ h => h)) (pa_cons (kFld (K := K) (pv 0) rfl) (pa_cons (pe_op (kAdd (K := K)) (kFld (K := K) (pv 0) rfl) (kFld (K := K) (pv 1) rfl)) pa_nil)))))), ?_⟩
  walk_at "rn"
  obtain ⟨ad, xd, rfl, sd, dd⟩ := dp_tup hd
  refine ⟨_, _, _, ha, T.cl_Book, T.na_Book__desks, _, rfl, _, _, _, ha', T.cl_Book, T.na_Book__desks, _, rfl, ?_⟩
  rw [rNeU_r]
  refine ⟨_, _, hd, hd', desks_shaped g.1, desks_shaped g'.1, _, rfl, ?_⟩
  rw [eqv_strs]
  by_cases e : dsk = dsk'
  · rw [decide_eq_true e]
    rw [if_pos e] at q
    refine ⟨_, _, _, ha, T.cl_Book, T.na_Book__desks, _, rfl, _, _, _, ha, T.cl_Book, T.na_Book__rules, _, rfl, _, _, _, ha', T.cl_Book, T.na_Book__rules, _, rfl, ?_⟩
    refine cat_dp hrr hrr' (by have := good_len g; omega) (by have := good_len g'; omega) fun v H2 k hv => ?_
    walk_at "rn"
    refine made (dpSame k hd) hv (good_desks g) (fun rs2 e2 => ?_) (q.same k)
    cases e2
    refine ⟨?_, fun e m => ?_⟩
    · have := good_len g
      have := good_len g'
      rw [List.length_append]
      omega
    · rcases List.mem_append.mp m with m | m
      · exact good_rules g e m
      · exact good_rules g' e m
  · rw [decide_eq_false e]
    rw [if_neg e] at q
    exact q H (Same.refl H)
/-- the item at an index of a tuple -/
def ixD (rs : List PyData) : PyData → Option PyData
  | .int i => if 0 ≤ i then rs[i.toNat]? else none
  | _ => none
theorem ixD_has {rs : List PyData} {d : PyData} (h : hasD rs.length d = true) : ∃ (i : Nat) (e : PyData), d = .int i ∧ rs[i]? = some e ∧ ixD rs d = some e := by
  cases d <;> first | exact Bool.noConfusion h | skip
  rename_i z
  simp only [hasD, Bool.and_eq_true, decide_eq_true_eq] at h
  obtain ⟨n, rfl⟩ := Int.eq_ofNat_of_zero_le h.1
  have hn : n < rs.length := by omega
  exact ⟨n, rs[n], rfl, List.getElem?_eq_getElem hn, by simp [ixD, hn]⟩
theorem ixD_not {rs : List PyData} {d : PyData} (h : hasD rs.length d = false) : ixD rs d = none := by
  cases d <;> first | rfl | skip
  rename_i z
  simp only [ixD]
  by_cases c : 0 ≤ z
  · rw [if_pos c, List.getElem?_eq_none]
    simp only [hasD, Bool.and_eq_false_iff, decide_eq_false_iff_not] at h
    omega
  · rw [if_neg c]
def spIxB (K : PySem.W.Frag) (C NR : Addr) : Sp := fun vs H Q E => ∃ b dsk rs v d, vs = [b, v] ∧ BookIs K C H b dsk rs ∧ Dp K H v d ∧
  match ixD rs d with
  | some e => ∀ w H', Same H H' → Dp K H' w e → Q w H'
  | none => NoRuleE K NR H E d
theorem m_Book_getitem (T : TX P K mg Z) : MethOk P w K mg base Z.Book "__getitem__" ["self", "at"] 4 (spIxB K Z.Book Z.NoRule) := by
  refine T.mt_Book_getitem.ok T.cl_Book sc_Book_getitem (by rintro _ _ _ _ ⟨_, _, _, _, _, rfl, _⟩; rfl) fun f cdv A outer s H vs Q E hr h => ?_
  obtain ⟨b, dsk, rs, v, d, rfl, bk, hv, q⟩ := h
  refine ⟨_, (pss_cons (ps_if (pt_not (pt_val (pe_methD (m_Book__has T) hr (pv 0) passL (pa_cons (pv 1) pa_nil)))) (pss_one (LowIndex.ps_raise rfl T.x_NoRule T.c_NoRule hr (takes_of rfl rfl rfl rfl) (pa_cons (pv 1) pa_nil))) pss_nil) (pss_one (ps_ret (pe_ix (kIx (K := K)) (kFld (K := K) (pv 0) rfl) (pv 1) (fun _ _ => rfl))))), ?_⟩
  walk_at "rn"
  have bk0 := bk
  obtain ⟨a, dx, vd, vr, rfl, ha, hd, hrr, g⟩ := bk
  refine ⟨_, rfl, _, _, ha, rfl, _, _, _, _, _, rfl, bk0, hv, fun H1 k1 => ⟨_, rfl, ?_⟩⟩
  by_cases c : hasD rs.length d = true
  · rw [c]
    obtain ⟨i, e, rfl, he, hx⟩ := ixD_has c
    rw [hx] at q
    cases dp_int hv
    obtain ⟨ar, xs, rfl, hrs, hda⟩ := dp_tup hrr
    obtain ⟨w, hw, hwe⟩ := dps_at hda he
    show if (!true) = true then _ else _
    rw [if_neg (by decide)]
    refine ⟨_, rfl, _, _, _, k1 _ _ ha, T.cl_Book, T.na_Book__rules, _, rfl, ix_t (same_seqT k1 hrs) (atI_nat hw) ?_⟩
    exact q _ H1 k1 (dpSame k1 hwe)
  · rw [Bool.not_eq_true] at c
    rw [c]
    rw [ixD_not c] at q
    exact fun a n => raised (K := K) q k1 (dpSame k1 hv) a n
/-- two neighbours exchanged -/
def swapL {α : Type} (rs : List α) (i : Nat) : List α := match rs[i]?, rs[i + 1]? with
  | some a, some b => (rs.set i b).set (i + 1) a
  | _, _ => rs
theorem hasD_next {n : Nat} {i : Int} : hasD (n - 1) (.int i) = (hasD n (.int i) && hasD n (.int (i + 1))) := by
  simp only [hasD]
  rw [Bool.eq_iff_iff]
  simp only [Bool.and_eq_true, decide_eq_true_eq]
  omega
theorem hasD_int {n : Nat} {d : PyData} (h : hasD n d = true) : ∃ i : Nat, d = .int i ∧ i < n := by
  cases d <;> first | exact Bool.noConfusion h | skip
  rename_i z
  simp only [hasD, Bool.and_eq_true, decide_eq_true_eq] at h
  obtain ⟨m, rfl⟩ := Int.eq_ofNat_of_zero_le h.1
  exact ⟨m, rfl, by omega⟩
def spExch (K : PySem.W.Frag) (C ND NR : Addr) : Sp := fun vs H Q E => ∃ b dsk rs v d, vs = [b, v] ∧ BookIs K C H b dsk rs ∧ Dp K H v d ∧
    if hasD (rs.length - 1) d then ∀ i : Nat, d = .int i → OutB K C ND NR H (bookD (.tuple (dsk.map PyData.str)) (.tuple (swapL rs i))) Q E else NoRuleE K NR H E d
theorem m_Book_exchanged (T : TX P K mg Z) : MethOk P w K mg base Z.Book "exchanged" ["self", "index"] 7 (spExch K Z.Book Z.NoDesks Z.NoRule) := by
  refine T.mt_Book_exchanged.ok T.cl_Book sc_Book_exchanged (by rintro _ _ _ _ ⟨_, _, _, _, _, rfl, _⟩; rfl) fun f cdv A outer s H vs Q E hr h => ?_
  obtain ⟨b, dsk, rs, v, d, rfl, bk, hv, q⟩ := h
  refine ⟨_, (pss_cons (ps_if (PW.pt (pw_or (pt_not (pt_val (pe_methD (m_Book__has T) hr (pv 0) passL (pa_cons (pv 1) pa_nil)))) (pw_or1 (pt_not (pt_val (pe_methD (m_Book__has T) hr (pv 0) passL (pa_cons (pe_op (kAdd (K := K)) (pv 1) pe_int) pa_nil))))))) (pss_one (LowIndex.ps_raise rfl T.x_NoRule T.c_NoRule hr (takes_of rfl rfl rfl rfl) (pa_cons (pv 1) pa_nil))) pss_nil) (pss_cons (ps_set (i := 2) sc_Book_exchanged.nd rfl (by first | exact Or.inl rfl | exact Or.inr rfl) (pe_callTy (kList (K := K)) (by rfl) T.b_list (by decide +kernel) (pa_cons (kFld (K := K) (pv 0) rfl) pa_nil))) (pss_cons (ps_asg (pe_tup (pa_cons (pe_ix (kIx (K := K)) (pv 2) (pe_op (kAdd (K := K)) (pv 1) pe_int) (fun _ _ => rfl)) (pa_cons (pe_ix (kIx (K := K)) (pv 2) (pv 1) (fun _ _ => rfl)) pa_nil))) (kTup (K := K) (n := 2) rfl (pgs_cons (pg_sub (pv 2) (pv 1) set_list) (pgs_cons (pg_sub (pv 2) (pe_op (kAdd (K := K)) (pv 1) pe_int) set_list) pgs_nil)))) (pss_one (ps_ret (pe_makeD (mk_Book T) hr rfl (passes_call (takes_of rfl rfl rfl rfl) (fun _ _ _ _ h => h)) (pa_cons (kFld (K := K) (pv 0) rfl) (pa_cons (pe_callTy (kTuple (K := K)) (by rfl) T.b_tuple (by decide +kernel) (pa_cons (pv 2) pa_nil)) pa_nil)))))))), ?_⟩
  walk_at "rn"
  have bk0 := bk
  obtain ⟨a, dx, vd, vr, rfl, ha, hd, hrr, g⟩ := bk
  refine ⟨_, rfl, _, _, ha, rfl, _, _, _, _, _, rfl, bk0, hv, fun H1 k1 => ⟨_, rfl, ?_⟩⟩
  by_cases c : hasD rs.length d = true
  · obtain ⟨i, rfl, hi⟩ := hasD_int c
    rw [c]
    cases dp_int hv
    rw [if_neg (show ¬ (!true) = true by decide)]
    refine ⟨_, rfl, _, _, k1 _ _ ha, rfl, ?_⟩
    walk_at "rn"
    refine ⟨_, _, _, _, _, rfl, bk0.same k1, .int _, fun H2 k2 => ⟨_, rfl, ?_⟩⟩
    have k12 := k1.trans k2
    rw [hasD_next, c, Bool.true_and] at q
    by_cases c2 : hasD rs.length (.int ((i : Int) + 1)) = true
    · rw [c2] at q ⊢
      rw [if_neg (show ¬ (!true) = true by decide)]
      rw [if_pos rfl] at q
      have q := q i rfl
      have hi2 : i + 1 < rs.length := by
        simp only [hasD, Bool.and_eq_true, decide_eq_true_eq] at c2
        omega
      obtain ⟨ar, xs, rfl, hrs, hda⟩ := dp_tup hrr
      have ln := dps_len hda
      refine ⟨_, _, _, k12 _ _ ha, T.cl_Book, T.na_Book__rules, _, rfl, list_t (same_seqT k12 hrs) fun l nl => ?_⟩
      have ei : (i : Int) + 1 = ((i + 1 : Nat) : Int) := by omega
      walk_at "rn"
      rw [ei]
      obtain ⟨x0, h0, d0⟩ := dps_at hda (List.getElem?_eq_getElem hi)
      obtain ⟨x1, h1, d1⟩ := dps_at hda (List.getElem?_eq_getElem hi2)
      refine ix_l (.inl (.inl upd_same)) (atI_nat h1) ?_
      refine ix_l (.inl (.inl upd_same)) (atI_nat h0) ?_
      walk_at "rn"
      refine ⟨by decide +kernel, fun p np => ⟨[x1, x0], .inl (.inl upd_same), rfl, _, _, rfl, ?_⟩⟩
      have nlp : l ≠ p := fun z => by rw [← z, upd_same] at np; cases np
      refine ⟨l, xs, (i : Nat), i, rfl, rfl, by rw [upd_ne nlp]; exact upd_same, ixN_nat (by omega), _, _, rfl, ?_⟩
      refine ⟨l, xs.set i x1, ((i + 1 : Nat) : Int), i + 1, rfl, rfl, upd_same, ixN_nat (by rw [List.length_set]; omega), rfl, ?_⟩
      have s3 : ∀ o3 o4 : HO, Same H2 (upd (upd (upd (upd H2 l (.lst xs)) p (.tup [x1, x0])) l o3) l o4) := fun o3 o4 b o e => by
        have h1 : b ≠ l := ne_of_none e nl
        have h2 : b ≠ p := fun z => by
          rw [z] at e
          rw [upd_ne (Ne.symm nlp), e] at np
          cases np
        rw [upd_ne h1, upd_ne h1, upd_ne h2, upd_ne h1]
        exact e
      have s4 := k12.trans (s3 (.lst (xs.set i x1)) (.lst ((xs.set i x1).set (i + 1) x0)))
      refine ⟨_, _, _, s4 _ _ ha, T.cl_Book, T.na_Book__desks, _, rfl, tup_l (.inl (.inl upd_same)) fun t nt => ?_⟩
      have s5 := Same.put (o := .tup ((xs.set i x1).set (i + 1) x0)) s4 nt
      have es : (rs.set i rs[i + 1]).set (i + 1) rs[i] = swapL rs i := by
        unfold swapL
        rw [List.getElem?_eq_getElem hi, List.getElem?_eq_getElem hi2]
      rw [← es] at q
      refine made (dpSame s5 hd) (.tup (.inl (.inl upd_same)) (dps_set _ (dps_set _ (dpsSame s5 hda) (dpSame s5 d1)) (dpSame s5 d0))) (good_desks g) (fun rs2 e2 => ?_) (q.same s5)
      cases e2
      have gl := good_len g
      refine ⟨by simp; omega, fun e m => ?_⟩
      have m : e ∈ rs := by
        rcases List.mem_or_eq_of_mem_set m with m | m
        · rcases List.mem_or_eq_of_mem_set m with m | m
          · exact m
          · rw [m]; exact List.getElem_mem _
        · rw [m]; exact List.getElem_mem _
      exact good_rules g e m
    · rw [Bool.not_eq_true] at c2
      rw [c2] at q ⊢
      exact fun a n => raised (K := K) q k12 (.int _) a n
  · rw [Bool.not_eq_true] at c
    rw [c]
    have e : hasD (rs.length - 1) d = false := by
      cases d <;> first | rfl | skip
      rw [hasD_next, c, Bool.false_and]
    rw [e, if_neg Bool.false_ne_true] at q
    exact fun a n => raised (K := K) q k1 (dpSame k1 hv) a n
def intOf : PyData → Int
  | .int i => i
  | _ => 0
/-- the indexes in order; the first item that is no index, or stands there for the second time -/
def outs (n : Nat) : List Int → List PyData → PyData ⊕ List Int
  | seen, [] => .inr seen
  | seen, d :: r => if hasD n d = true ∧ intOf d ∉ seen then outs n (seen ++ [intOf d]) r else .inl d
def keepL (seen : List Int) : Nat → List PyData → List PyData
  | _, [] => []
  | i, e :: r => if (i : Int) ∈ seen then keepL seen (i + 1) r else e :: keepL seen (i + 1) r
theorem keepL_snoc (seen : List Int) (e : PyData) : ∀ (xs : List PyData) (i : Nat), keepL seen i (xs ++ [e]) = keepL seen i xs ++ (if ((i + xs.length : Nat) : Int) ∈ seen then [] else [e])
  | [], i => by
    simp only [List.nil_append, keepL, List.length_nil, Nat.add_zero]
  | x :: xs, i => by
    have ih := keepL_snoc seen e xs (i + 1)
    rw [List.cons_append]
    simp only [keepL, ih, List.length_cons]
    have en : i + 1 + xs.length = i + (xs.length + 1) := by omega
    rw [en]
    by_cases c : (i : Int) ∈ seen <;> simp [c]
theorem keepL_sub (seen : List Int) : ∀ (xs : List PyData) (i : Nat), (keepL seen i xs).length ≤ xs.length ∧ ∀ e ∈ keepL seen i xs, e ∈ xs
  | [], i => ⟨Nat.le_refl _, fun _ h => h⟩
  | x :: xs, i => by
    obtain ⟨h1, h2⟩ := keepL_sub seen xs (i + 1)
    unfold keepL
    by_cases c : (i : Int) ∈ seen
    · rw [if_pos c]
      exact ⟨by simp; omega, fun e m => List.mem_cons_of_mem _ (h2 e m)⟩
    · rw [if_neg c]
      refine ⟨by simp; omega, fun e m => ?_⟩
      rcases List.mem_cons.mp m with rfl | m
      · exact List.mem_cons_self
      · exact List.mem_cons_of_mem _ (h2 e m)
/-- the same of the values -/
def keepV (seen : List Int) : Nat → List V → List V
  | _, [] => []
  | i, e :: r => if (i : Int) ∈ seen then keepV seen (i + 1) r else e :: keepV seen (i + 1) r
theorem keepV_snoc (seen : List Int) (e : V) : ∀ (xs : List V) (i : Nat), keepV seen i (xs ++ [e]) = keepV seen i xs ++ (if ((i + xs.length : Nat) : Int) ∈ seen then [] else [e])
  | [], i => by
    simp only [List.nil_append, keepV, List.length_nil, Nat.add_zero]
  | x :: xs, i => by
    have ih := keepV_snoc seen e xs (i + 1)
    rw [List.cons_append]
    simp only [keepV, ih, List.length_cons]
    have en : i + 1 + xs.length = i + (xs.length + 1) := by omega
    rw [en]
    by_cases c : (i : Int) ∈ seen <;> simp [c]
theorem keepV_len (seen : List Int) : ∀ (xs : List V) (i : Nat), (keepV seen i xs).length ≤ xs.length
  | [], i => Nat.le_refl _
  | x :: xs, i => by
    have h1 := keepV_len seen xs (i + 1)
    unfold keepV
    by_cases c : (i : Int) ∈ seen
    · rw [if_pos c]; simp; omega
    · rw [if_neg c]; simp; omega
theorem keep_dp {K : PySem.W.Frag} {H : Hp} (seen : List Int) : ∀ {xs : List V} {rs : List PyData} (i : Nat), DpAll K H xs rs → DpAll K H (keepV seen i xs) (keepL seen i rs)
  | _, _, _, .nil => .nil
  | _, _, i, .cons h t => by
    unfold keepV keepL
    by_cases c : (i : Int) ∈ seen
    · rw [if_pos c, if_pos c]; exact keep_dp seen (i + 1) t
    · rw [if_neg c, if_neg c]; exact .cons h (keep_dp seen (i + 1) t)
/-- a value that is no tuple -/
def NotTup (K : PySem.W.Frag) (H : Hp) (x : V) : Prop := ∃ t, TyX K H x t ∧ PySem.W.kitOne K t (.type "tuple") = some false
def spWo (K : PySem.W.Frag) (C ND NR : Addr) : Sp := fun vs H Q E => (∃ b dsk rs v d, vs = [b, v] ∧ BookIs K C H b dsk rs ∧ Dp K H v d ∧ (∀ ds, d = .tuple ds → ds.length ≤ 1000) ∧
    match d with
    | .tuple ds => (match outs rs.length [] ds with
      | .inl e => NoRuleE K NR H E e
      | .inr seen => OutB K C ND NR H (bookD (.tuple (dsk.map PyData.str)) (.tuple (keepL seen 0 rs))) Q E)
    | _ => NoRuleE K NR H E (.int 0)) ∨ ∃ b dsk rs v, vs = [b, v] ∧ BookIs K C H b dsk rs ∧ NotTup K H v ∧ NoRuleE K NR H E (.int 0)
theorem m_Book_without (T : TX P K mg Z) : MethOk P w K mg base Z.Book "without" ["self", "indexes"] 7 (spWo K Z.Book Z.NoDesks Z.NoRule) := by
  refine T.mt_Book_without.ok T.cl_Book sc_Book_without (by rintro _ _ _ _ (⟨_, _, _, _, _, rfl, _⟩ | ⟨_, _, _, _, rfl, _⟩) <;> rfl) fun f cdv A outer s H vs Q E hr h => ?_
  refine ⟨_, (pss_cons (ps_if (pt_not (pt_val (pe_callB (kIsi (K := K)) (by rfl) T.b_isinstance (by decide +kernel) (pa_cons (pv 1) (pa_cons (pe_ty (n := "tuple") T.b_tuple) pa_nil))))) (pss_one (LowIndex.ps_raise rfl T.x_NoRule T.c_NoRule hr (takes_of rfl rfl rfl rfl) (pa_cons pe_int pa_nil))) pss_nil) (pss_cons (ps_set (i := 2) sc_Book_without.nd rfl (by first | exact Or.inl rfl | exact Or.inr rfl) (pe_lst pa_nil)) (pss_cons (ps_for (passes_of rfl) rfl (kSeq (K := K) (pv 1)) (pg_name (i := 3) sc_Book_without.nd rfl (by first | exact Or.inl rfl | exact Or.inr rfl)) (pss_cons (ps_if (PW.pt (pw_or (pt_not (pt_val (pe_methD (m_Book__has T) hr (pv 0) passL (pa_cons (pv 3) pa_nil)))) (pw_or1 (pt_cmpR (kIn (K := K)) (pv 3) (pv 2) (by rfl))))) (pss_one (LowIndex.ps_raise rfl T.x_NoRule T.c_NoRule hr (takes_of rfl rfl rfl rfl) (pa_cons (pv 3) pa_nil))) pss_nil) (pss_one (ps_expr (kBm (K := K) PySem.F.plainAttrs_list PySem.F.slot_list_append PySem.F.type_list_append mt_append (pv 2) (pa_cons (pv 3) pa_nil)))))) (pss_one (ps_ret (pe_makeD (mk_Book T) hr rfl (passes_call (takes_of rfl rfl rfl rfl) (fun _ _ _ _ h => h)) (pa_cons (kFld (K := K) (pv 0) rfl) (pa_cons (pe_callTy (kTuple (K := K)) (by rfl) T.b_tuple (by decide +kernel) (pa_cons (pe_lc (own := [("at", 4), ("rule", 5)]) rfl sc_Book_without.nd (kEnum (K := K) rfl T.b_enumerate (pa_cons (kFld (K := K) (pv 0) rfl) pa_nil)) (blkOk_by (N := ["self", "indexes", "left_out", "index", "at", "rule"]) (sc := defScope s_Book_without) (own := [("at", 4), ("rule", 5)]) (by decide +kernel)) (fun _ _ _ _ _ => (kTup (K := K) (n := 2) rfl (pgs_cons (pg_name (i := 4) sc_Book_without.nd rfl (by first | exact Or.inl rfl | exact Or.inr rfl)) (pgs_cons (pg_name (i := 5) sc_Book_without.nd rfl (by first | exact Or.inl rfl | exact Or.inr rfl)) pgs_nil)))) (fun _ _ _ _ _ => (pts_one (pt_cmpR (kNotIn (K := K)) (pv 4) (pv 2) (by rfl)))) (fun _ _ _ _ _ => (pv 5))) pa_nil)) pa_nil)))))))), ?_⟩
  rcases h with ⟨b, dsk, rs, v, d, rfl, bk, hv, small, q⟩ | ⟨b, dsk, rs, v, rfl, bk, ⟨t, ht, hk⟩, q⟩
  case inr =>
    walk_at "rn"
    refine ⟨v, .ty "tuple", t, .type "tuple", false, rfl, .ty _, ht, hk, ⟨_, rfl, ?_⟩⟩
    rw [if_pos (by decide)]
    exact fun a n => raised (K := K) q (Same.refl H) (.int 0) a n
  walk_at "rn"
  refine isi_dp hv ⟨_, rfl, ?_⟩
  rcases isD_tuple d with ⟨ds, rfl⟩ | e
  · rw [isD_tuple_t, if_neg (show ¬ (!true) = true by decide)]
    have small := small ds rfl
    dsimp only at q
    obtain ⟨ai, xi, rfl, hsi, hdi⟩ := dp_tup hv
    have li := dps_len hdi
    refine ⟨by decide +kernel, fun p np => ?_⟩
    have nap : ai ≠ p ∨ True := .inr trivial
    refine forT (xs := xi) (a := ai) (fun Q q => ⟨_, rfl, q⟩) (same_seqT (Same.put (Same.refl H) np) hsi) (fun i σ H' => (∃ u v w, σ = [some b, some (.ref ai), some (.ref p), u, v, w]) ∧ Keep (fun b => b = p) H H' ∧ ∃ seen, H' p = some (.lst (seen.map V.int)) ∧ seen.length = i ∧ outs rs.length [] ds = outs rs.length seen (ds.drop i)) ?_ ?_ ?_ ?_
    · exact ⟨⟨_, _, _, rfl⟩, (Keep.of (Same.refl H)).new np, [], upd_same, rfl, by rw [List.drop_zero]⟩
    · rintro i σ H' _ ⟨_, k, _⟩
      exact same_seqT (fun b o e => k b o (ne_of_none e np) e) hsi
    · rintro i y σ H' hy ⟨⟨u, v, w, rfl⟩, k, seen, es, ls, eo⟩
      have k' : Same H H' := fun b o e => k b o (ne_of_none e np) e
      obtain ⟨d1, hd1, hy'⟩ := dps_get hdi hy
      have dr : ds.drop i = d1 :: ds.drop (i + 1) := by
        obtain ⟨hi, e⟩ := List.getElem?_eq_some_iff.mp hd1
        rw [← e]
        exact List.drop_eq_getElem_cons hi
      have bk0 := bk
      obtain ⟨a, dx, vd, vr, rfl, ha, hd, hrr, g⟩ := bk
      walk_at "rn"
      refine ⟨_, _, k' _ _ ha, rfl, _, _, _, _, _, rfl, bk0.same k', dpSame k' hy', fun H1 k1 => ⟨_, rfl, ?_⟩⟩
      have k2 : Same H H1 := k'.trans k1
      have bad : ¬ (hasD rs.length d1 = true ∧ intOf d1 ∉ seen) → ∀ H2, Same H1 H2 → ∀ a, H2 a = none → E (.ref Z.NoRule) (some a) (upd H2 a (.xd [("index", y)])) := fun c H2 k3 a n => by
        have : outs rs.length [] ds = .inl d1 := by
          rw [eo, dr]
          unfold outs
          rw [if_neg c]
        rw [this] at q
        exact raised (K := K) q (k2.trans k3) (dpSame (k2.trans k3) hy') a n
      by_cases c : hasD rs.length d1 = true
      · rw [c, if_neg (show ¬ (!true) = true by decide)]
        obtain ⟨z, rfl, hz⟩ := hasD_int c
        cases dp_int hy'
        have es1 := k1 _ _ es
        refine .inl ⟨p, _, rfl, .inl (.inl (.inl es1)), rfl, flat_ints _, ?_⟩
        rw [if_neg Bool.false_ne_true, inV_ints]
        refine ⟨_, rfl, ?_⟩
        by_cases cm : (z : Int) ∈ seen
        · rw [if_pos (decide_eq_true cm)]
          exact bad (fun h => h.2 cm) H1 (Same.refl H1)
        · rw [if_neg (by simpa using cm)]
          refine ⟨.inl ⟨rfl, _, .inl (.inl es1)⟩, p, seen.map V.int, _, rfl, rfl, es1, ?_, ⟨_, rfl⟩, ?_, seen ++ [(z : Int)], ?_, ?_, ?_⟩
          · rw [List.length_map, sizeLine_eq]
            have := (List.getElem?_eq_some_iff.mp hd1).1
            omega
          · intro b o nb e
            rw [upd_ne nb]
            exact k2 _ _ e
          · rw [upd_same, List.map_append]
            rfl
          · rw [List.length_append, ls]
            rfl
          · rw [eo, dr]
            conv => lhs; unfold outs
            rw [if_pos ⟨c, cm⟩]
            rfl
      · rw [Bool.not_eq_true] at c
        rw [c, if_pos (show (!false) = true by decide)]
        exact bad (fun h => by rw [c] at h; exact Bool.noConfusion h.1) H1 (Same.refl H1)
    · rintro σ H' ⟨⟨u, v, w, rfl⟩, k, seen, es, ls, eo⟩
      have k' : Same H H' := fun b o e => k b o (ne_of_none e np) e
      have eo' : outs rs.length [] ds = .inr seen := by
        rw [eo, List.drop_of_length_le (by omega)]
        rfl
      rw [eo'] at q
      dsimp only at q
      obtain ⟨a, dx, vd, vr, rfl, ha, hd, hrr, g⟩ := bk
      have gl := good_len g
      obtain ⟨ar, xs, rfl, hrs, hda⟩ := dp_tup hrr
      have ln := dps_len hda
      walk_at "rn"
      refine ⟨_, _, _, k' _ _ ha, T.cl_Book, T.na_Book__desks, _, rfl, ?_⟩
      refine lcEt (xs := xs) (a := ar) (fun Q q => ⟨_, rfl, _, _, _, _, _, rfl, k' _ _ ha, T.cl_Book, T.na_Book__rules, rfl, q⟩) (fun H2 k2 => same_seqT (k'.trans k2) hrs) (by rw [sizeLine_eq]; omega) (fun i => keepV seen 0 (xs.take i)) rfl (fun i => Nat.le_trans (keepV_len _ _ _) (by rw [List.length_take]; omega)) ?_ ?_
      · rintro D acc i x H2 t N hx nD eD rfl k2 et nf nt
        have more : keepV seen 0 (xs.take (i + 1)) = keepV seen 0 (xs.take i) ++ (if (i : Int) ∈ seen then [] else [x]) := by
          obtain ⟨hi, e⟩ := List.getElem?_eq_some_iff.mp hx
          rw [List.take_succ, hx, show (some x).toList = [x] from rfl, keepV_snoc, List.length_take, Nat.min_eq_left (by omega), Nat.zero_add]
        walk_at "rn"
        refine ⟨_, .inl (.inl et), rfl, _, _, rfl, _, _, rfl, rfl, p, _, rfl, .inl (.inl (.inl (k2 _ _ es))), rfl, flat_ints _, ?_⟩
        rw [if_pos rfl, inV_ints]
        refine ⟨_, rfl, ?_⟩
        by_cases cm : (i : Int) ∈ seen
        · rw [if_neg (by simpa using cm)]
          exact nf H2 (Same.refl H2) (by rw [more, if_pos cm, List.append_nil])
        · rw [if_pos (by simpa using cm)]
          exact nt _ H2 (Same.refl H2) (by rw [more, if_neg cm])
      · rintro D H2 nD k2 eD
        rw [List.take_length] at eD
        walk_at "rn"
        refine tup_l (.inl (.inl eD)) fun t nt => ?_
        have k3 := Same.put (o := .tup (keepV seen 0 xs)) (k'.trans k2) nt
        refine made (dpSame k3 hd) (.tup (.inl (.inl upd_same)) (keep_dp seen 0 (dpsSame k3 hda))) (good_desks g) (fun rs2 e2 => ?_) (q.same k3)
        cases e2
        obtain ⟨s1, s2⟩ := keepL_sub seen rs 0
        exact ⟨by omega, fun e m => good_rules g e (s2 e m)⟩
  · rw [e, if_pos (show (!false) = true by decide)]
    have q : NoRuleE K Z.NoRule H E (.int 0) := by
      cases d <;> first | exact q | (rw [isD_tuple_t] at e; cases e)
    exact fun a n => raised (K := K) q (Same.refl H) (.int 0) a n
/-! ### == -/
theorem good_low {dsk : List Str} {rs : List PyData} (g : goodBook dsk rs) : lowOk dsk := fun z m => by
  have h := g.1
  unfold areDesksD at h
  simp only [Bool.and_eq_true, List.all_eq_true] at h
  exact name_ok (h.1.2 _ (List.mem_map_of_mem m))
theorem rules_lay {dsk : List Str} {rs : List PyData} (g : goodBook dsk rs) : layD 4 (.tuple rs) := fun e m => rule_lay (good_low g) ((firstBad_none dsk rs 0 g.2).2 e m)
def sameB (dsk : List Str) (rs : List PyData) (dsk' : List Str) (rs' : List PyData) : Bool := decide (dsk = dsk') && PyData.eqv (.tuple rs) (.tuple rs')
theorem kitOne_refl {K : PySem.W.Frag} {C : Addr} : PySem.W.kitOne K (.ref C) (.ref C) = some true := by
  unfold PySem.W.kitOne
  rw [if_pos (by simp)]
def spEqB (K : PySem.W.Frag) (C : Addr) : Sp := fun vs H Q _ => ∃ b c dsk rs dsk' rs', vs = [b, c] ∧ BookIs K C H b dsk rs ∧ BookIs K C H c dsk' rs' ∧ Q (.bl (sameB dsk rs dsk' rs')) H
theorem m_Book_eq (T : TX P K mg Z) : MethOk P w K mg base Z.Book "__eq__" ["self", "other"] 2 (spEqB K Z.Book) := by
  refine T.mt_Book_eq.ok T.cl_Book sc_Book_eq (by rintro _ _ _ _ ⟨_, _, _, _, _, _, rfl, _⟩; rfl) fun f cdv A outer s H vs Q E hr h => ?_
  obtain ⟨b, c, dsk, rs, dsk', rs', rfl, ⟨a, dx, vd, vr, rfl, ha, hd, hrr, g⟩, ⟨a', dx', vd', vr', rfl, ha', hd', hrr', g'⟩, q⟩ := h
  refine ⟨_, (pss_one (ps_ret (pe_and (pe_callB (kIsi (K := K)) (by rfl) T.b_isinstance (by decide +kernel) (pa_cons (pv 1) (pa_cons (pe_globR rfl T.c_Book) pa_nil))) (pe_and (pe_cmpR (kEq (K := K) hr.units) (kFld (K := K) (pv 0) rfl) (kFld (K := K) (pv 1) rfl) (nomark _)) (pe_one (pe_cmpR (kEq (K := K) hr.units) (kFld (K := K) (pv 0) rfl) (kFld (K := K) (pv 1) rfl) (nomark _))))))), ?_⟩
  walk_at "rn"
  refine ⟨_, _, _, _, _, rfl, .own _, .base (.ins ha' T.cl_Book T.ty_Book T.tg_class T.tt_class T.mo_Book), kitOne_refl, ?_⟩
  walk_at "rn"
  obtain ⟨ad, xd, rfl, sd, dd⟩ := dp_tup hd
  obtain ⟨ar, xr, rfl, sr, dr⟩ := dp_tup hrr
  refine ⟨_, _, _, ha, T.cl_Book, T.na_Book__desks, _, rfl, _, _, _, ha', T.cl_Book, T.na_Book__desks, _, rfl, ?_⟩
  rw [rEqU_r]
  refine ⟨_, _, hd, hd', desks_shaped g.1, desks_shaped g'.1, _, rfl, ?_⟩
  rw [eqv_strs]
  by_cases e : dsk = dsk'
  · rw [decide_eq_true e]
    refine ⟨_, _, _, ha, T.cl_Book, T.na_Book__rules, _, rfl, _, _, _, ha', T.cl_Book, T.na_Book__rules, _, rfl, ?_⟩
    rw [rEqU_r]
    refine ⟨_, _, hrr, hrr', (rules_lay g).shaped (by decide), (rules_lay g').shaped (by decide), ?_⟩
    unfold sameB at q
    rw [decide_eq_true e, Bool.true_and] at q
    exact q
  · rw [decide_eq_false e]
    unfold sameB at q
    rw [decide_eq_false e, Bool.false_and] at q
    exact q
theorem sameB_refl {dsk : List Str} {rs : List PyData} (g : goodBook dsk rs) : sameB dsk rs dsk rs = true := by
  unfold sameB
  rw [decide_eq_true rfl, (rules_lay g).refl]
  rfl
end

set_option Elab.async false
set_option linter.all false
set_option maxRecDepth 100000
set_option maxHeartbeats 4000000
section
variable {P : Program} {w : World} {K : PySem.W.Frag} {mg : Str → Option Value} {base : Heap} {Z : Ad}
theorem strs_mapP : ∀ zs : List Str, strsOf (zs.map PyData.str) = zs
  | [] => rfl
  | z :: r => by
    show z :: strsOf (r.map PyData.str) = z :: r
    rw [strs_mapP r]
theorem d__law_dip (T : TX P K mg Z) : DefOk P w K mg base "_law_dip" ["pot", "many"] 1 spDip := by
  refine T.f__law_dip.ok sc__law_dip (by rintro _ _ _ _ ⟨_, _, _, rfl, _⟩; rfl) fun f cdv A outer s H vs Q E hr h => ?_
  obtain ⟨p, many, n, rfl, ⟨a, b, c, e, a0, b0, b1, c0, c1⟩, hn, m0, m1, q⟩ := h
  refine ⟨_, (pss_cons (ps_if (pt_cmpR op_gt (pe_ix (kIx (K := K)) (pv 0) pe_int (fun _ _ => rfl)) pe_int (nomark _)) (pss_cons (ps_set (i := 2) sc__law_dip.nd rfl (by first | exact Or.inl rfl | exact Or.inr rfl) (pe_op op_mod (pe_callTy call_int1 (by rfl) T.b_int (by decide +kernel) (pa_cons (pe_ix (kIx (K := K)) (pv 0) pe_int (fun _ _ => rfl)) pa_nil)) (pv 1))) (pss_cons (ps_asg (pe_op op_fdivW (pe_ix (kIx (K := K)) (pv 0) pe_int (fun _ _ => rfl)) (pv 1)) (pg_sub (pv 0) pe_int set_list)) (pss_one (ps_ret (pv 2))))) pss_nil) (pss_cons (ps_asg (pe_op (kAdd (K := K)) (pe_ix (kIx (K := K)) (pv 0) pe_int (fun _ _ => rfl)) pe_int) (pg_sub (pv 0) pe_int set_list)) (pss_cons (ps_set (i := 3) sc__law_dip.nd rfl (by first | exact Or.inl rfl | exact Or.inr rfl) (pe_op op_mod (pe_callTy call_int1 (by rfl) T.b_int (by decide +kernel) (pa_cons (pe_op uPow (pe_op (kAdd (K := K)) (pe_ix (kIx (K := K)) (pv 0) pe_int (fun _ _ => rfl)) (pe_op uMul pe_int (pe_ix (kIx (K := K)) (pv 0) pe_int (fun _ _ => rfl)))) pe_int) pa_nil)) (pe_op (kAdd (K := K)) (pe_op uPow pe_int pe_int) pe_int))) (pss_cons (ps_set (i := 3) sc__law_dip.nd rfl (by first | exact Or.inl rfl | exact Or.inr rfl) (pe_op op_mod (pe_callTy call_int1 (by rfl) T.b_int (by decide +kernel) (pa_cons (pe_op uPow (pe_op (kAdd (K := K)) (pv 3) (pe_op uMul pe_int (pe_ix (kIx (K := K)) (pv 0) pe_int (fun _ _ => rfl)))) pe_int) pa_nil)) (pe_op (kAdd (K := K)) (pe_op uPow pe_int pe_int) pe_int))) (pss_one (ps_ret (pe_op op_mod (pe_callTy call_int1 (by rfl) T.b_int (by decide +kernel) (pa_cons (pe_op op_fdivW (pv 3) (pe_op uPow pe_int pe_int)) pa_nil)) (pv 1)))))))), ?_⟩
  walk_at "rn"
  have ix0 : ∀ {H1 : Hp} {x y z : Int} {Q : VK}, H1 p = some (.lst [.int x, .int y, .int z]) → Q (.int x) H1 → rIxU K (.ref p) (.int 0) H1 Q := fun e q => ix_l (.inl (.inl e)) rfl q
  have ix1 : ∀ {H1 : Hp} {x y z : Int} {Q : VK}, H1 p = some (.lst [.int x, .int y, .int z]) → Q (.int y) H1 → rIxU K (.ref p) (.int 1) H1 Q := fun e q => ix_l (.inl (.inl e)) rfl q
  have ix2 : ∀ {H1 : Hp} {x y z : Int} {Q : VK}, H1 p = some (.lst [.int x, .int y, .int z]) → Q (.int z) H1 → rIxU K (.ref p) (.int 2) H1 Q := fun e q => ix_l (.inl (.inl e)) rfl q
  have put : ∀ {o : HO}, o ≠ .tup [] → Gr p H (upd H p o) := fun _ => ⟨fun b o nb e => by rw [upd_ne nb]; exact e, fun _ => by rw [upd_same]; exact fun z => nomatch z⟩
  refine ix0 e ⟨_, rfl, ?_⟩
  by_cases ca : 0 < a
  · rw [if_pos (decide_eq_true ca)]
    refine ix0 e (.inl ⟨_, rfl, m0, ix0 e ⟨_, rfl, cdiv m0 (by omega), p, _, 0, 0, rfl, rfl, e, rfl, ?_⟩⟩)
    refine q _ _ (Int.emod_nonneg _ (by omega)) (Int.emod_lt_of_pos _ m0) (put (by simp)) ⟨a / many, b, c, upd_same, Int.ediv_nonneg a0 (by omega), b0, b1, c0, by omega⟩
  · rw [if_neg (by simpa using ca)]
    refine ix2 e ?_
    walk_at "rn"
    refine ⟨p, _, 2, 2, rfl, rfl, e, rfl, ?_⟩
    have e2 : upd H p (.lst ([V.int a, .int b, .int c].set 2 (.int (c + 1)))) p = some (.lst [.int a, .int b, .int (c + 1)]) := upd_same
    refine ix1 e2 (ix2 e2 ⟨_, rfl, cmul (by omega) (by omega) (by omega) (by omega), ?_⟩)
    walk_at "rn"
    have c61 : c + 1 ≤ 2 ^ 61 := by omega
    refine ⟨cpow3a b0 b1 (by decide) (by decide) (by omega) c61, cpowc (by decide) (by decide) (by decide), by decide +kernel, ix2 e2 ⟨_, rfl, cmul (by decide) (by decide) (by omega) (by omega), cpow3m (by decide +kernel) (by decide +kernel) (by decide) (by decide) (by omega) c61, cpowc (by decide) (by decide) (by decide), by decide +kernel, cpowc (by decide) (by decide) (by decide), cdiv (by decide +kernel) (by decide +kernel), m0, ?_⟩⟩
    exact q _ _ (Int.emod_nonneg _ (by omega)) (Int.emod_lt_of_pos _ m0) (put (by simp)) ⟨a, b, c + 1, upd_same, a0, b0, b1, by omega, by omega⟩
def spPot (K : PySem.W.Frag) : Sp := fun vs H Q _ => ∃ (a : Addr) (ns : List Int) (k : Nat), vs = [.ref a, .int k] ∧ SqL K H a (ns.map V.int) ∧ k ≤ 1000 ∧ ∀ p H', Same H H' → H p = none → PotAt H' p 0 → Q (.ref p) H'
theorem d__law_pot (T : TX P K mg Z) : DefOk P w K mg base "_law_pot" ["script", "k"] 1 (spPot K) := by
  refine T.f__law_pot.ok sc__law_pot (by rintro _ _ _ _ ⟨_, _, _, rfl, _⟩; rfl) fun f cdv A outer s H vs Q E hr h => ?_
  obtain ⟨a, ns, k, rfl, hs, hk, q⟩ := h
  refine ⟨_, (pss_cons (ps_set (i := 2) sc__law_pot.nd rfl (by first | exact Or.inl rfl | exact Or.inr rfl) pe_int) (pss_cons (ps_if (pt_cmpR op_lt (pv 1) (pe_callB (kLen (K := K)) (by rfl) T.b_len PySem.boot_len (pa_cons (pv 0) pa_nil)) (nomark _)) (pss_one (ps_set (i := 2) sc__law_pot.nd rfl (by first | exact Or.inl rfl | exact Or.inr rfl) (pe_callB call_abs (by rfl) T.b_abs (by decide +kernel) (pa_cons (pe_callTy call_int1 (by rfl) T.b_int (by decide +kernel) (pa_cons (pe_ix (kIx (K := K)) (pv 0) (pv 1) (fun _ _ => rfl)) pa_nil)) pa_nil)))) pss_nil) (pss_one (ps_ret (pe_lst (pa_cons (pe_callB (call_max2 rfl) (by rfl) T.b_max (by decide +kernel) (pa_cons pe_int (pa_cons (pe_op op_sub (pv 2) (pe_op uPow pe_int pe_int)) pa_nil))) (pa_cons (pe_op (kAdd (K := K)) (pe_op op_mod (pe_callTy call_int1 (by rfl) T.b_int (by decide +kernel) (pa_cons (pv 2) pa_nil)) (pe_op (kAdd (K := K)) (pe_op uPow pe_int pe_int) pe_int)) (pe_op uMul pe_int (pv 1))) (pa_cons pe_int pa_nil)))))))), ?_⟩
  walk_at "rn"
  refine len_l hs ⟨_, rfl, ?_⟩
  rw [List.length_map]
  have lay : ∀ p, H p = none → ∀ x y : Int, 0 ≤ x → (0 ≤ y ∧ y < 2 ^ 200) → Q (.ref p) (upd H p (.lst [.int x, .int y, .int 0])) := fun p np x y x0 y0 => q p _ (Same.put (Same.refl H) np) np ⟨x, y, 0, upd_same, x0, y0.1, y0.2, by decide, by omega⟩
  by_cases c : k < ns.length
  · rw [if_pos (decide_eq_true (by omega))]
    refine ix_l hs (atI_nat (ints_at c)) (.inl ⟨_, rfl, cpowc (by decide) (by decide) (by decide), cpowc (by decide) (by decide) (by decide), by decide +kernel, cmul (by decide) (by decide) (by omega) (by omega), by decide +kernel, fun p np => ?_⟩)
    exact lay p np _ _ (max0 _) (modk (by decide +kernel) (by decide +kernel) (by decide) (by decide) hk)
  · rw [if_neg (by simp; omega)]
    refine ⟨cpowc (by decide) (by decide) (by decide), cpowc (by decide) (by decide) (by decide), by decide +kernel, cmul (by decide) (by decide) (by omega) (by omega), by decide +kernel, fun p np => ?_⟩
    exact lay p np _ _ (max0 _) (modk (by decide +kernel) (by decide +kernel) (by decide) (by decide) hk)
def spName : Sp := fun vs H Q _ => ∃ (p : Addr) (n : Nat), vs = [.ref p] ∧ PotAt H p n ∧ n + 16 < 2 ^ 60 ∧ ∀ z H', isNameS z = true → Gr p H H' → PotAt H' p (n + 16) → Q (.str z) H'
theorem d__law_name (T : TX P K mg Z) : DefOk P w K mg base "_law_name" ["pot"] 2 spName := by
  refine T.f__law_name.ok sc__law_name (by rintro _ _ _ _ ⟨_, _, rfl, _⟩; rfl) fun f cdv A outer s H vs Q E hr h => ?_
  obtain ⟨p, n, rfl, hp, hn, q⟩ := h
  refine ⟨_, (pss_cons (ps_if (pt_cmpR (kEq (K := K) hr.units) (pe_callD (d__law_dip T) hr rfl passL (pa_cons (pv 0) (pa_cons pe_int pa_nil))) pe_int (nomark _)) (pss_cons (ps_set (i := 1) sc__law_name.nd rfl (by first | exact Or.inl rfl | exact Or.inr rfl) (pe_lst (pa_cons pe_str (pa_cons pe_str (pa_cons pe_str (pa_cons pe_str (pa_cons pe_str (pa_cons pe_str (pa_cons pe_str (pa_cons pe_str (pa_cons pe_str (pa_cons pe_str (pa_cons pe_str (pa_cons pe_str (pa_cons pe_str (pa_cons pe_str pa_nil)))))))))))))))) (pss_one (ps_ret (pe_ix (kIx (K := K)) (pe_op (kAdd (K := K)) (pv 1) (pe_lst (pa_cons pe_str (pa_cons pe_str pa_nil)))) (pe_callD (d__law_dip T) hr rfl passL (pa_cons (pv 0) (pa_cons pe_int pa_nil))) (fun _ _ => rfl))))) pss_nil) (pss_cons (ps_set (i := 2) sc__law_name.nd rfl (by first | exact Or.inl rfl | exact Or.inr rfl) (pe_op (kAdd (K := K)) pe_int (pe_callD (d__law_dip T) hr rfl passL (pa_cons (pv 0) (pa_cons pe_int pa_nil))))) (pss_one (ps_ret (kJoin (K := K) pe_str (pe_lc (own := [("k", 3)]) rfl sc__law_name.nd (pi_range1 rfl T.b_range (pa_cons (pv 2) pa_nil)) (blkOk_by (N := ["pot", "some", "size", "k"]) (sc := defScope s__law_name) (own := [("k", 3)]) (by decide +kernel)) (fun _ _ _ _ _ => (pg_name (i := 3) sc__law_name.nd rfl (by first | exact Or.inl rfl | exact Or.inr rfl))) (fun _ _ _ _ _ => pts_nil) (fun _ _ _ _ _ => (pe_ix (kIx (K := K)) pe_str (pe_callD (d__law_dip T) hr rfl passL (pa_cons (pv 0) (pa_cons pe_int pa_nil))) (fun _ _ => rfl))))))))), ?_⟩
  walk_at "rn"
  refine ⟨p, _, n, rfl, hp, by omega, by decide, by decide, fun r H1 r0 r1 g1 p1 => ?_⟩
  walk_at "rn"
  by_cases c : r = 0
  · rw [if_pos (by simpa using c)]
    refine ⟨by decide +kernel, ?_⟩
    walk_at "lay"
    rename_i l1 H2 s2 n1 e1
    refine ⟨by decide +kernel, ?_⟩
    walk_at "lay"
    rename_i l2 H3 s3 n2 e2
    refine cat_l (s3 _ _ e1) e2 (by decide) ?_
    walk_at "lay"
    rename_i l3 H4 s4 n3 e3
    have s := (s2.trans s3).trans s4
    refine ⟨p, _, n + 1, rfl, p1.same s, by omega, by decide, by decide, fun r2 H5 r20 r21 g5 p5 => ?_⟩
    have ne3 : l3 ≠ p := fun z => (p1.same (s2.trans s3)).ne (z ▸ n3)
    refine ix_pick (zs := ["do", "if", "not", "desk", "at", "status", "days", "reply", "a", "ab", "answered", "stop", "open", "b", "ba", "zzzzzzzz"]) (.inl (.inl (g5.keep l3 _ ne3 e3))) r20 r21 fun z hz => ?_
    exact q z H5 ((by decide +kernel : ∀ z ∈ (["do", "if", "not", "desk", "at", "status", "days", "reply", "a", "ab", "answered", "stop", "open", "b", "ba", "zzzzzzzz"] : List Str), isNameS z = true) z hz) ((g1.trans (Gr.of s)).trans g5) (p5.mono (by omega))
  · rw [if_neg (by simpa using c)]
    refine ⟨p, _, n + 1, rfl, p1, by omega, by decide, by decide, fun r2 H2 r20 r21 g2 p2 => ?_⟩
    obtain ⟨m, rfl⟩ := Int.eq_ofNat_of_zero_le r20
    have em : (1 : Int) + ((m : Nat) : Int) = ((1 + m : Nat) : Int) := by omega
    walk_at "rn"
    rw [em]
    refine ⟨⟨_, rfl⟩, ?_⟩
    refine lcDraw (K := K) 1 isSign (n := 1 + m) (by rw [sizeLine_eq]; omega) p2 ?_ ?_
    · intro i H' N hi g' p' q'
      walk_at "rn"
      refine ⟨p, _, _, rfl, p', by omega, by decide, by decide, fun r3 H5 r30 r31 g5 p5 => ?_⟩
      refine ix_sign (z := lettersS) r30 (letters26 r31) (by decide +kernel) fun c hc => ?_
      exact q' _ (.str (sign c)) H5 g5 p5 (Fd.str _) ⟨c, hc, rfl⟩
    · intro D H' ys ds nD g' eD p' ld F gd
      obtain ⟨cs, rfl, lc, mc⟩ := signs_of F gd
      refine ⟨_, D, cs.map sign, rfl, rfl, .inl (.inl (.inl eD)), ?_, q _ H' (name_of (by omega) (by omega) mc) ((g1.trans g2).trans g') (p'.mono (by omega))⟩
      rw [sum_signs, List.length_map]
      show cs.length + cs.length * 0 ≤ _
      omega
def spDesks (K : PySem.W.Frag) : Sp := fun vs H Q _ => ∃ (p : Addr) (n : Nat), vs = [.ref p] ∧ PotAt H p n ∧ n + 128 < 2 ^ 60 ∧ ∀ v (dsk : List Str) H', areDesksD (.tuple (dsk.map PyData.str)) = true → Fd K H H' v (.tuple (dsk.map PyData.str)) → Gr p H H' → PotAt H' p (n + 128) → Q v H'
theorem d__law_desks (T : TX P K mg Z) : DefOk P w K mg base "_law_desks" ["pot"] 3 (spDesks K) := by
  refine T.f__law_desks.ok sc__law_desks (by rintro _ _ _ _ ⟨_, _, rfl, _⟩; rfl) fun f cdv A outer s H vs Q E hr h => ?_
  obtain ⟨p, n, rfl, hp, hn, q⟩ := h
  refine ⟨_, (pss_cons (ps_set (i := 1) sc__law_desks.nd rfl (by first | exact Or.inl rfl | exact Or.inr rfl) (pe_lst pa_nil)) (pss_cons (ps_for (passes_of rfl) rfl (pi_range1 rfl T.b_range (pa_cons (pe_op (kAdd (K := K)) pe_int (pe_callD (d__law_dip T) hr rfl passL (pa_cons (pv 0) (pa_cons pe_int pa_nil)))) pa_nil)) (pg_name (i := 2) sc__law_desks.nd rfl (by first | exact Or.inl rfl | exact Or.inr rfl)) (pss_cons (ps_set (i := 3) sc__law_desks.nd rfl (by first | exact Or.inl rfl | exact Or.inr rfl) (pe_callD (d__law_name T) hr rfl passL (pa_cons (pv 0) pa_nil))) (pss_cons (ps_if (pt_cmpR (kIn (K := K)) (pv 3) (pv 1) (by rfl)) (pss_one (ps_set (i := 3) sc__law_desks.nd rfl (by first | exact Or.inl rfl | exact Or.inr rfl) (pe_ix (kIx (K := K)) (pe_lc (own := [("spare", 4)]) rfl sc__law_desks.nd (kSeq (K := K) (pe_lst (pa_cons pe_str (pa_cons pe_str (pa_cons pe_str (pa_cons pe_str pa_nil)))))) (blkOk_by (N := ["pot", "found", "k", "name", "spare"]) (sc := defScope s__law_desks) (own := [("spare", 4)]) (by decide +kernel)) (fun _ _ _ _ _ => (pg_name (i := 4) sc__law_desks.nd rfl (by first | exact Or.inl rfl | exact Or.inr rfl))) (fun _ _ _ _ _ => (pts_one (pt_cmpR (kNotIn (K := K)) (pv 4) (pv 1) (by rfl)))) (fun _ _ _ _ _ => (pv 4))) pe_int (fun _ _ => rfl)))) pss_nil) (pss_one (ps_expr (kBm (K := K) PySem.F.plainAttrs_list PySem.F.slot_list_append PySem.F.type_list_append mt_append (pv 1) (pa_cons (pv 3) pa_nil))))))) (pss_one (ps_ret (pe_callTy (kTuple (K := K)) (by rfl) T.b_tuple (by decide +kernel) (pa_cons (pv 1) pa_nil)))))), ?_⟩
  walk_at "rn"
  refine ⟨by decide +kernel, ?_⟩
  walk_at "lay"
  rename_i l H1 s1 n1 e1
  refine ⟨p, _, n, rfl, hp.same s1, by omega, by decide, by decide, fun r H2 r0 r1 g2 p2 => ?_⟩
  obtain ⟨m, rfl⟩ := Int.eq_ofNat_of_zero_le r0
  walk_at "rn"
  have em : (1 : Int) + ((m : Nat) : Int) = ((1 + m : Nat) : Int) := by omega
  rw [em]
  have lp : l ≠ p := fun z => hp.ne (z ▸ n1)
  have g02 : Gr p H H2 := (Gr.of s1).trans g2
  refine forR (by rw [sizeLine_eq]; omega) (fun i σ H' => (∃ u v w, σ = [some (.ref p), some (.ref l), u, v, w]) ∧ Gr p H H' ∧ PotAt H' p (n + 1 + i * 16) ∧ ∃ zs : List Str, H' l = some (.lst (zs.map V.str)) ∧ zs.length = i ∧ (∀ z ∈ zs, isNameS z = true) ∧ zs.Nodup) ⟨⟨_, _, _, rfl⟩, g02, p2, [], g2.keep l _ lp e1, rfl, (by simp), List.nodup_nil⟩ ?_ ?_
  · rintro i σ H3 hi ⟨⟨u, v, w, rfl⟩, g3, p3, zs, e3, lz, nz, dz⟩
    walk_at "rn"
    refine ⟨p, _, rfl, p3, by omega, fun z H4 hz g4 p4 => ?_⟩
    have e4 := g4.keep l _ lp e3
    have g34 := g3.trans g4
    have pt : ∀ H5 : Hp, H5 p = H4 p → PotAt H5 p (n + 1 + (i + 1) * 16) := fun H5 e5 => by
      obtain ⟨a, b, c, e, h⟩ := p4
      exact ⟨a, b, c, by rw [e5]; exact e, by rw [show n + 1 + (i + 1) * 16 = n + 1 + i * 16 + 16 by omega]; exact h⟩
    have put : ∀ (H5 : Hp) (y : Str), Same H4 H5 → isNameS y = true → y ∉ zs → Gr p H (upd H5 l (.lst (zs.map V.str ++ [V.str y]))) ∧ PotAt (upd H5 l (.lst (zs.map V.str ++ [V.str y]))) p (n + 1 + (i + 1) * 16) ∧ ∃ zs' : List Str, upd H5 l (.lst (zs.map V.str ++ [V.str y])) l = some (.lst (zs'.map V.str)) ∧ zs'.length = i + 1 ∧ (∀ z ∈ zs', isNameS z = true) ∧ zs'.Nodup := fun H5 y s5 hy ny => by
      have g5 := g34.trans (Gr.of s5)
      have pp : upd H5 l (.lst (zs.map V.str ++ [V.str y])) p = H4 p := by
        rw [upd_ne (Ne.symm lp)]
        obtain ⟨a, b, c, e, _⟩ := p4
        rw [e]
        exact s5 _ _ e
      refine ⟨⟨fun b o nb e => ?_, fun z => by rw [pp]; exact p4.ne⟩, pt _ pp, zs ++ [y], by rw [upd_same, List.map_append]; rfl, by simp [lz], fun x hx => ?_, ?_⟩
      · rw [upd_ne (ne_of_none e n1)]
        exact g5.keep b o nb e
      · rcases List.mem_append.mp hx with hx | hx
        · exact nz x hx
        · rw [List.mem_singleton.mp hx]; exact hy
      · rw [List.nodup_append]
        exact ⟨dz, by simp, fun a ha b hb => by rw [List.mem_singleton.mp hb]; exact fun q => ny (q ▸ ha)⟩
    refine .inl ⟨l, _, rfl, .inl (.inl (.inl e4)), rfl, flat_all _, ?_⟩
    rw [if_neg Bool.false_ne_true, inV_strs]
    refine ⟨_, rfl, ?_⟩
    have an : ∀ y : Str, (zs.any fun x => x == y) = decide (y ∈ zs) := fun y => by
      rw [Bool.eq_iff_iff, List.any_eq_true, decide_eq_true_eq]
      exact ⟨fun ⟨x, h1, h2⟩ => by rw [← beq_iff_eq.mp h2]; exact h1, fun h => ⟨y, h, by simp⟩⟩
    by_cases cz : z ∈ zs
    · rw [if_pos (by rw [an]; exact decide_eq_true cz)]
      refine lc_l ?_
      walk_at "rn"
      refine ⟨by decide +kernel, ?_⟩
      walk_at "lay"
      rename_i l2 H5 s5 n5 e5
      refine lcLf (xs := spares.map V.str) (fun H' k => .inl (.inl (k _ _ e5))) (by rw [sizeLine_eq]; decide) (fun i => ((spares.take i).filter (fun z => !zs.any fun y => y == z)).map V.str) rfl (fun i => by
        rw [List.length_map]
        exact Nat.le_trans (List.length_filter_le _ _) (by rw [List.length_take]; omega)) ?_ ?_
      · intro j x H6 N hx s6 nf nt
        obtain ⟨s, hs, rfl⟩ : ∃ s, spares[j]? = some s ∧ x = V.str s := by
          rw [List.getElem?_map] at hx
          cases e : spares[j]? with
          | none => rw [e] at hx; cases hx
          | some s => rw [e] at hx; exact ⟨s, rfl, (Option.some.inj hx).symm⟩
        have more := filter_more (zs := zs) hs
        walk_at "rn"
        refine ⟨l, _, rfl, .inl (.inl (.inl ((s5.trans s6) _ _ e4))), rfl, flat_all _, ?_⟩
        rw [if_pos rfl, inV_strs]
        refine ⟨_, rfl, ?_⟩
        by_cases cs : zs.any (fun y => y == s) = true
        · rw [cs, if_neg (by decide)]
          exact nf H6 (Same.refl H6) (by rw [more, if_pos cs, List.append_nil])
        · rw [Bool.not_eq_true] at cs
          rw [cs, if_pos (by decide)]
          exact nt _ H6 (Same.refl H6) (by rw [more, cs, if_neg Bool.false_ne_true])
      · intro D H6 nD s6 eD
        obtain ⟨z0, rest, ez, hz0, nz0⟩ := spare_left (zs := zs) (by omega)
        have e0 : spares.take (spares.map V.str).length = spares := List.take_of_length_le (by simp)
        rw [e0, ez] at eD
        refine ix_l (.inl (.inl eD)) (atI_nat (j := 0) rfl) ?_
        have s56 := s5.trans s6
        exact ⟨.inl ⟨rfl, _, .inl (.inl (s56 _ _ e4))⟩, l, _, _, rfl, rfl, s56 _ _ e4, by rw [List.length_map, sizeLine_eq]; omega, ⟨_, rfl⟩, put H6 z0 s56 hz0 nz0⟩
    · rw [if_neg (by rw [an]; simpa using cz)]
      exact ⟨.inl ⟨rfl, _, .inl (.inl e4)⟩, l, _, _, rfl, rfl, e4, by rw [List.length_map, sizeLine_eq]; omega, ⟨_, rfl⟩, put H4 z (Same.refl H4) hz cz⟩
  · rintro σ H3 ⟨⟨u, v, w, rfl⟩, g3, p3, zs, e3, lz, nz, dz⟩
    walk_at "rn"
    refine tup_l (.inl (.inl e3)) ?_
    walk_at "lay"
    rename_i t H4 s4 n4 e4
    have g4 := g3.trans (Gr.of s4)
    refine q _ zs H4 ?_ (Fd.tup (fd_strs zs) e4 (g3.none n4)) g4 ((p3.same s4).mono (by omega))
    unfold areDesksD
    dsimp only
    rw [strs_mapP]
    simp only [Bool.and_eq_true, decide_eq_true_eq, List.all_eq_true]
    refine ⟨⟨⟨by rw [List.length_map]; omega, by rw [List.length_map]; omega⟩, fun x hx => ?_⟩, dz⟩
    obtain ⟨y, hy, rfl⟩ := List.mem_map.mp hx
    exact nz y hy
theorem d__law_test (T : TX P K mg Z) : DefOk P w K mg base "_law_test" ["pot", "desks"] 2 (spDraw K 4 fun dsk d => hasForm testForms dsk d = true) := by
  refine T.f__law_test.ok sc__law_test (by rintro _ _ _ _ ⟨_, _, _, _, rfl, _⟩; rfl) fun f cdv A outer s H vs Q E hr h => ?_
  obtain ⟨p, a, n, dsk, rfl, hp, hn, ha, l1, l4, q⟩ := h
  refine ⟨_, (pss_cons (ps_par (i := 2) (j := 3) rfl sc__law_test.nd rfl rfl (by decide) rfl rfl (pa_cons (pe_callD (d__law_dip T) hr rfl passL (pa_cons (pv 0) (pa_cons pe_int pa_nil))) (pa_cons (pe_cmpR (kEq (K := K) hr.units) (pe_callD (d__law_dip T) hr rfl passL (pa_cons (pv 0) (pa_cons pe_int pa_nil))) pe_int (nomark _)) pa_nil)) (by rfl)) (pss_cons (ps_if (pt_cmpR (kEq (K := K) hr.units) (pv 2) pe_int (nomark _)) (pss_one (ps_ret (pe_tup (pa_cons pe_str (pa_cons (pe_ix (kIx (K := K)) (pe_lst (pa_cons pe_str (pa_cons pe_str (pa_cons pe_str (pa_cons pe_str pa_nil))))) (pe_callD (d__law_dip T) hr rfl passL (pa_cons (pv 0) (pa_cons pe_int pa_nil))) (fun _ _ => rfl)) (pa_cons (pv 3) pa_nil)))))) pss_nil) (pss_cons (ps_if (pt_cmpR (kEq (K := K) hr.units) (pv 2) pe_int (nomark _)) (pss_one (ps_ret (pe_tup (pa_cons pe_str (pa_cons (pe_ix (kIx (K := K)) (pv 1) (pe_callD (d__law_dip T) hr rfl passL (pa_cons (pv 0) (pa_cons (pe_callB (kLen (K := K)) (by rfl) T.b_len PySem.boot_len (pa_cons (pv 1) pa_nil)) pa_nil))) (fun _ _ => rfl)) (pa_cons (pv 3) pa_nil)))))) pss_nil) (pss_one (ps_ret (pe_ix (kIx (K := K)) (pe_lst (pa_cons (pe_tup (pa_cons pe_str (pa_cons (pe_op (kAdd (K := K)) pe_int (pe_callD (d__law_dip T) hr rfl passL (pa_cons (pv 0) (pa_cons pe_int pa_nil)))) pa_nil))) (pa_cons (pe_tup (pa_cons pe_str (pa_cons (pv 3) pa_nil))) (pa_cons (pe_tup (pa_cons pe_str (pa_cons (pv 3) pa_nil))) pa_nil)))) (pe_op op_sub (pv 2) pe_int) (fun _ _ => rfl))))))), ?_⟩
  walk_at "rn"
  refine ⟨p, _, n, rfl, hp, by omega, by decide, by decide, fun r H1 r0 r1 g1 p1 => ?_⟩
  refine ⟨p, _, _, rfl, p1, by omega, by decide, by decide, fun b H2 b0 b1 g2 p2 => ?_⟩
  walk_at "rn"
  generalize decide (b = 0) = wanted
  have g12 := g1.trans g2
  have a2 := sqT_gr ha hp g12
  by_cases c0 : r = 0
  · rw [if_pos (decide_eq_true c0)]
    refine ⟨by decide +kernel, ?_⟩
    walk_at "lay"
    rename_i l H3 s3 n3 e3
    refine ⟨p, _, _, rfl, p2.same s3, by omega, by decide, by decide, fun k H4 k0 k1 g4 p4 => ?_⟩
    have lp : l ≠ p := fun z => p2.ne (z ▸ n3)
    refine ix_pick (zs := statusesS) (.inl (.inl (g4.keep l _ lp e3))) k0 k1 fun z hz => ⟨by decide +kernel, ?_⟩
    walk_at "lay"
    rename_i t H5 s5 n5 e5
    have g := (g12.trans (Gr.of s3)).trans g4
    exact q _ _ H5 (ft_status hz) (Fd.tup (.cons (.str _) (.cons (.str _) (.cons (.bl _) .nil))) e5 (g.none n5)) (g.trans (Gr.of s5)) ((p4.same s5).mono (by omega))
  · rw [if_neg (by simpa using c0)]
    by_cases c1 : r = 1
    · rw [if_pos (decide_eq_true c1)]
      refine len_t a2 ?_
      rw [List.length_map]
      refine ⟨p, _, _, rfl, p2, by omega, by omega, by omega, fun k H4 k0 k1 g4 p4 => ?_⟩
      refine ix_pickT (sqT_gr a2 p2 g4) k0 k1 fun z hz => ⟨by decide +kernel, ?_⟩
      walk_at "lay"
      rename_i t H5 s5 n5 e5
      have g := g12.trans g4
      exact q _ _ H5 (ft_desk hz) (Fd.tup (.cons (.str _) (.cons (.str _) (.cons (.bl _) .nil))) e5 (g.none n5)) (g.trans (Gr.of s5)) ((p4.same s5).mono (by omega))
    · rw [if_neg (by simpa using c1)]
      refine ⟨p, _, _, rfl, p2, by omega, by decide, by decide, fun k H3 k0 k1 g3 p3 => ?_⟩
      walk_at "rn"
      refine ⟨by decide +kernel, ?_⟩
      walk_at "lay"
      rename_i t1 H4 s4 n4 e4
      refine ⟨by decide +kernel, ?_⟩
      walk_at "lay"
      rename_i t2 H5 s5 n5 e5
      refine ⟨by decide +kernel, ?_⟩
      walk_at "lay"
      rename_i t3 H6 s6 n6 e6
      refine ⟨by decide +kernel, ?_⟩
      walk_at "lay"
      rename_i l H7 s7 n7 e7
      have g := g12.trans g3
      have g7 := g.trans (Gr.of (((s4.trans s5).trans s6).trans s7))
      have p7 := ((p3.same (((s4.trans s5).trans s6).trans s7)).mono (show n + 1 + 1 + 1 ≤ n + 4 by omega))
      rcases (show r = 2 ∨ r = 3 ∨ r = 4 by omega) with rfl | rfl | rfl
      · refine ix_l (.inl (.inl e7)) rfl ?_
        exact q _ _ H7 (ft_days (by omega) (by omega)) (Fd.tup (.cons (.str _) (.cons (.int _) .nil)) (((s5.trans s6).trans s7) _ _ e4) (g.none n4)) g7 p7
      · refine ix_l (.inl (.inl e7)) rfl ?_
        exact q _ _ H7 ft_answered (Fd.tup (.cons (.str _) (.cons (.bl _) .nil)) ((s6.trans s7) _ _ e5) (g.none (s4.free n5))) g7 p7
      · refine ix_l (.inl (.inl e7)) rfl ?_
        exact q _ _ H7 ft_marked (Fd.tup (.cons (.str _) (.cons (.bl _) .nil)) (s7 _ _ e6) (g.none ((s4.trans s5).free n6))) g7 p7
theorem d__law_action (T : TX P K mg Z) : DefOk P w K mg base "_law_action" ["pot", "desks"] 2 (spDraw K 4 fun dsk d => hasForm actionForms dsk d = true) := by
  refine T.f__law_action.ok sc__law_action (by rintro _ _ _ _ ⟨_, _, _, _, rfl, _⟩; rfl) fun f cdv A outer s H vs Q E hr h => ?_
  obtain ⟨p, a, n, dsk, rfl, hp, hn, ha, l1, l4, q⟩ := h
  refine ⟨_, (pss_cons (ps_set (i := 2) sc__law_action.nd rfl (by first | exact Or.inl rfl | exact Or.inr rfl) (pe_callD (d__law_dip T) hr rfl passL (pa_cons (pv 0) (pa_cons pe_int pa_nil)))) (pss_cons (ps_if (pt_cmpR (kEq (K := K) hr.units) (pv 2) pe_int (nomark _)) (pss_one (ps_ret (pe_tup (pa_cons pe_str (pa_cons (pe_ix (kIx (K := K)) (pe_lst (pa_cons pe_str (pa_cons pe_str (pa_cons pe_str (pa_cons pe_str pa_nil))))) (pe_callD (d__law_dip T) hr rfl passL (pa_cons (pv 0) (pa_cons pe_int pa_nil))) (fun _ _ => rfl)) pa_nil))))) pss_nil) (pss_cons (ps_if (pt_cmpR (kEq (K := K) hr.units) (pv 2) pe_int (nomark _)) (pss_one (ps_ret (pe_tup (pa_cons pe_str (pa_cons (pe_ix (kIx (K := K)) (pv 1) (pe_callD (d__law_dip T) hr rfl passL (pa_cons (pv 0) (pa_cons (pe_callB (kLen (K := K)) (by rfl) T.b_len PySem.boot_len (pa_cons (pv 1) pa_nil)) pa_nil))) (fun _ _ => rfl)) pa_nil))))) pss_nil) (pss_one (ps_ret (pe_ix (kIx (K := K)) (pe_lst (pa_cons (pe_tup (pa_cons pe_str (pa_cons (pe_cmpR (kEq (K := K) hr.units) (pe_callD (d__law_dip T) hr rfl passL (pa_cons (pv 0) (pa_cons pe_int pa_nil))) pe_int (nomark _)) pa_nil))) (pa_cons (pe_tup (pa_cons pe_str pa_nil)) (pa_cons (pe_tup (pa_cons pe_str pa_nil)) pa_nil)))) (pe_op op_sub (pv 2) pe_int) (fun _ _ => rfl))))))), ?_⟩
  walk_at "rn"
  refine ⟨p, _, n, rfl, hp, by omega, by decide, by decide, fun r H2 r0 r1 g12 p2 => ?_⟩
  walk_at "rn"
  have a2 := sqT_gr ha hp g12
  by_cases c0 : r = 0
  · rw [if_pos (decide_eq_true c0)]
    refine ⟨by decide +kernel, ?_⟩
    walk_at "lay"
    rename_i l H3 s3 n3 e3
    refine ⟨p, _, _, rfl, p2.same s3, by omega, by decide, by decide, fun k H4 k0 k1 g4 p4 => ?_⟩
    have lp : l ≠ p := fun z => p2.ne (z ▸ n3)
    refine ix_pick (zs := statusesS) (.inl (.inl (g4.keep l _ lp e3))) k0 k1 fun z hz => ⟨by decide +kernel, ?_⟩
    walk_at "lay"
    rename_i t H5 s5 n5 e5
    have g := (g12.trans (Gr.of s3)).trans g4
    exact q _ _ H5 (fa_status hz) (Fd.tup (.cons (.str _) (.cons (.str _) .nil)) e5 (g.none n5)) (g.trans (Gr.of s5)) ((p4.same s5).mono (by omega))
  · rw [if_neg (by simpa using c0)]
    by_cases c1 : r = 1
    · rw [if_pos (decide_eq_true c1)]
      refine len_t a2 ?_
      rw [List.length_map]
      refine ⟨p, _, _, rfl, p2, by omega, by omega, by omega, fun k H4 k0 k1 g4 p4 => ?_⟩
      refine ix_pickT (sqT_gr a2 p2 g4) k0 k1 fun z hz => ⟨by decide +kernel, ?_⟩
      walk_at "lay"
      rename_i t H5 s5 n5 e5
      have g := g12.trans g4
      exact q _ _ H5 (fa_desk hz) (Fd.tup (.cons (.str _) (.cons (.str _) .nil)) e5 (g.none n5)) (g.trans (Gr.of s5)) ((p4.same s5).mono (by omega))
    · rw [if_neg (by simpa using c1)]
      refine ⟨p, _, _, rfl, p2, by omega, by decide, by decide, fun k H3 k0 k1 g3 p3 => ?_⟩
      walk_at "rn"
      generalize decide (k = 0) = wanted
      refine ⟨by decide +kernel, ?_⟩
      walk_at "lay"
      rename_i t1 H4 s4 n4 e4
      refine ⟨by decide +kernel, ?_⟩
      walk_at "lay"
      rename_i t2 H5 s5 n5 e5
      refine ⟨by decide +kernel, ?_⟩
      walk_at "lay"
      rename_i t3 H6 s6 n6 e6
      refine ⟨by decide +kernel, ?_⟩
      walk_at "lay"
      rename_i l H7 s7 n7 e7
      have g := g12.trans g3
      have g7 := g.trans (Gr.of (((s4.trans s5).trans s6).trans s7))
      have p7 := ((p3.same (((s4.trans s5).trans s6).trans s7)).mono (show n + 1 + 1 ≤ n + 4 by omega))
      rcases (show r = 2 ∨ r = 3 ∨ r = 4 by omega) with rfl | rfl | rfl
      · refine ix_l (.inl (.inl e7)) rfl ?_
        exact q _ _ H7 fa_mark (Fd.tup (.cons (.str _) (.cons (.bl _) .nil)) (((s5.trans s6).trans s7) _ _ e4) (g.none n4)) g7 p7
      · refine ix_l (.inl (.inl e7)) rfl ?_
        exact q _ _ H7 fa_reply (Fd.tup (.cons (.str _) .nil) ((s6.trans s7) _ _ e5) (g.none (s4.free n5))) g7 p7
      · refine ix_l (.inl (.inl e7)) rfl ?_
        exact q _ _ H7 fa_stop (Fd.tup (.cons (.str _) .nil) (s7 _ _ e6) (g.none ((s4.trans s5).free n6))) g7 p7
theorem d__law_rule (T : TX P K mg Z) : DefOk P w K mg base "_law_rule" ["pot", "desks"] 3 (spDraw K 48 fun dsk d => isRuleD dsk d = true) := by
  refine T.f__law_rule.ok sc__law_rule (by rintro _ _ _ _ ⟨_, _, _, _, rfl, _⟩; rfl) fun f cdv A outer s H vs Q E hr h => ?_
  obtain ⟨p, a, n, dsk, rfl, hp, hn, ha, l1, l4, q⟩ := h
  refine ⟨_, (pss_cons (ps_set (i := 2) sc__law_rule.nd rfl (by first | exact Or.inl rfl | exact Or.inr rfl) (pe_ix (kIx (K := K)) (pe_lst (pa_cons pe_str (pa_cons pe_str (pa_cons pe_str (pa_cons pe_str (pa_cons pe_str (pa_cons pe_str pa_nil))))))) (pe_callD (d__law_dip T) hr rfl passL (pa_cons (pv 0) (pa_cons pe_int pa_nil))) (fun _ _ => rfl))) (pss_cons (ps_set (i := 3) sc__law_rule.nd rfl (by first | exact Or.inl rfl | exact Or.inr rfl) (pe_callTy (kTuple (K := K)) (by rfl) T.b_tuple (by decide +kernel) (pa_cons (pe_lc (own := [("k", 4)]) rfl sc__law_rule.nd (pi_range1 rfl T.b_range (pa_cons (pe_callD (d__law_dip T) hr rfl passL (pa_cons (pv 0) (pa_cons pe_int pa_nil))) pa_nil)) (blkOk_by (N := ["pot", "desks", "event", "tests", "k"]) (sc := defScope s__law_rule) (own := [("k", 4)]) (by decide +kernel)) (fun _ _ _ _ _ => (pg_name (i := 4) sc__law_rule.nd rfl (by first | exact Or.inl rfl | exact Or.inr rfl))) (fun _ _ _ _ _ => pts_nil) (fun _ _ _ _ _ => (pe_callD (d__law_test T) hr rfl passL (pa_cons (pv 0) (pa_cons (pv 1) pa_nil))))) pa_nil))) (pss_one (ps_ret (pe_tup (pa_cons (pv 2) (pa_cons (pv 3) (pa_cons (pe_callTy (kTuple (K := K)) (by rfl) T.b_tuple (by decide +kernel) (pa_cons (pe_lc (own := [("k", 4)]) rfl sc__law_rule.nd (pi_range1 rfl T.b_range (pa_cons (pe_op (kAdd (K := K)) pe_int (pe_callD (d__law_dip T) hr rfl passL (pa_cons (pv 0) (pa_cons pe_int pa_nil)))) pa_nil)) (blkOk_by (N := ["pot", "desks", "event", "tests", "k"]) (sc := defScope s__law_rule) (own := [("k", 4)]) (by decide +kernel)) (fun _ _ _ _ _ => (pg_name (i := 4) sc__law_rule.nd rfl (by first | exact Or.inl rfl | exact Or.inr rfl))) (fun _ _ _ _ _ => pts_nil) (fun _ _ _ _ _ => (pe_callD (d__law_action T) hr rfl passL (pa_cons (pv 0) (pa_cons (pv 1) pa_nil))))) pa_nil)) pa_nil)))))))), ?_⟩
  walk_at "rn"
  refine ⟨by decide +kernel, ?_⟩
  walk_at "lay"
  rename_i l H1 s1 n1 e1
  refine ⟨p, _, n, rfl, hp.same s1, by omega, by decide, by decide, fun r H2 r0 r1 g2 p2 => ?_⟩
  have lp : l ≠ p := fun z => hp.ne (z ▸ n1)
  refine ix_pick (zs := eventsS) (.inl (.inl (g2.keep l _ lp e1))) r0 r1 fun z hz => ?_
  walk_at "rn"
  refine ⟨p, _, _, rfl, p2, by omega, by decide, by decide, fun m H3 m0 m1 g3 p3 => ?_⟩
  obtain ⟨m, rfl⟩ := Int.eq_ofNat_of_zero_le m0
  have g13 := ((Gr.of (p := p) s1).trans g2).trans g3
  refine lcDraw (K := K) 4 (fun d => hasForm testForms dsk d = true) (by rw [sizeLine_eq]; omega) p3 ?_ ?_
  · intro i H' N hi g' p' q'
    walk_at "rn"
    exact ⟨p, a, _, dsk, rfl, p', by omega, sqT_gr ha hp (g13.trans g'), l1, l4, fun v d H4 gd fd g4 p4 => q' v d H4 g4 p4 fd gd⟩
  · intro D1 H4 ys ds nD1 g4 eD1 p4 ld F gd
    walk_at "rn"
    refine tup_l (.inl (.inl eD1)) ?_
    walk_at "lay"
    rename_i t1 H5 s5 n5 e5
    have g14 := g13.trans g4
    have g15 := g14.trans (Gr.of s5)
    refine ⟨p, _, _, rfl, p4.same s5, by omega, by decide, by decide, fun k H6 k0 k1 g6 p6 => ?_⟩
    obtain ⟨k, rfl⟩ := Int.eq_ofNat_of_zero_le k0
    walk_at "rn"
    have ek : (1 : Int) + ((k : Nat) : Int) = ((1 + k : Nat) : Int) := by omega
    rw [ek]
    have g16 := g15.trans g6
    refine lcDraw (K := K) 4 (fun d => hasForm actionForms dsk d = true) (by rw [sizeLine_eq]; omega) p6 ?_ ?_
    · intro i H' N hi g' p' q'
      walk_at "rn"
      exact ⟨p, a, _, dsk, rfl, p', by omega, sqT_gr ha hp (g16.trans g'), l1, l4, fun v d H4 gd fd g4 p4 => q' v d H4 g4 p4 fd gd⟩
    · intro D2 H7 zs es nD2 g7 eD2 p7 le G ge
      refine tup_l (.inl (.inl eD2)) ?_
      walk_at "lay"
      rename_i t2 H8 s8 n8 e8
      refine ⟨by decide +kernel, ?_⟩
      walk_at "lay"
      rename_i t3 H9 s9 n9 e9
      have h3 : H3 p ≠ none := p3.ne
      have h6 : H6 p ≠ none := p6.ne
      have n1' : ∀ b, H b ≠ none → H3 b ≠ none := g13.dom
      have g59 := ((Gr.of (p := p) s5).trans g6).trans ((g7.trans (Gr.of s8)).trans (Gr.of s9))
      have lt1 : t1 ≠ p := fun c => p4.ne (c ▸ n5)
      have F1 : Fd K H H9 (.ref t1) (.tuple ds) := Fd.tup ((F.later h3 g59).weak n1') (((g6.trans g7).trans (Gr.of (s8.trans s9))).keep _ _ lt1 e5) (g14.none n5)
      have F2 : Fd K H H9 (.ref t2) (.tuple es) := Fd.tup ((G.same (s8.trans s9)).weak g16.dom) (s9 _ _ e8) ((g16.trans g7).none n8)
      have g19 := ((g16.trans g7).trans (Gr.of s8))
      refine q _ _ H9 ?_ (Fd.tup (.cons (.str z) (.cons F1 (.cons F2 .nil))) e9 (g19.none n9)) (g19.trans (Gr.of s9)) ((p7.same (s8.trans s9)).mono (by omega))
      show (isWordD eventsS (.str z) && decide (ds.length ≤ 4) && ds.all (hasForm testForms dsk) && decide (1 ≤ es.length) && decide (es.length ≤ 4) && es.all (hasForm actionForms dsk)) = true
      simp only [Bool.and_eq_true, decide_eq_true_eq, List.all_eq_true]
      exact ⟨⟨⟨⟨⟨word_mem hz, by omega⟩, gd⟩, by omega⟩, by omega⟩, ge⟩
def spRules (K : PySem.W.Frag) : Sp := fun vs H Q _ => ∃ (p a : Addr) (n most : Nat) (dsk : List Str), vs = [.ref p, .ref a, .int most] ∧ PotAt H p n ∧ n + 1024 < 2 ^ 60 ∧ most ≤ 8 ∧ SqT K H a (dsk.map V.str) ∧ 1 ≤ dsk.length ∧ dsk.length ≤ 4 ∧
    ∀ v rs H', rs.length ≤ most → (∀ e ∈ rs, isRuleD dsk e = true) → Fd K H H' v (.tuple rs) → Gr p H H' → PotAt H' p (n + 1024) → Q v H'
theorem d__law_rules (T : TX P K mg Z) : DefOk P w K mg base "_law_rules" ["pot", "desks", "most"] 4 (spRules K) := by
  refine T.f__law_rules.ok sc__law_rules (by rintro _ _ _ _ ⟨_, _, _, _, _, rfl, _⟩; rfl) fun f cdv A outer s H vs Q E hr h => ?_
  obtain ⟨p, a, n, most, dsk, rfl, hp, hn, hm, ha, l1, l4, q⟩ := h
  refine ⟨_, (pss_one (ps_ret (pe_callTy (kTuple (K := K)) (by rfl) T.b_tuple (by decide +kernel) (pa_cons (pe_lc (own := [("k", 3)]) rfl sc__law_rules.nd (pi_range1 rfl T.b_range (pa_cons (pe_callD (d__law_dip T) hr rfl passL (pa_cons (pv 0) (pa_cons (pe_op (kAdd (K := K)) (pv 2) pe_int) pa_nil))) pa_nil)) (blkOk_by (N := ["pot", "desks", "most", "k"]) (sc := defScope s__law_rules) (own := [("k", 3)]) (by decide +kernel)) (fun _ _ _ _ _ => (pg_name (i := 3) sc__law_rules.nd rfl (by first | exact Or.inl rfl | exact Or.inr rfl))) (fun _ _ _ _ _ => pts_nil) (fun _ _ _ _ _ => (pe_callD (d__law_rule T) hr rfl passL (pa_cons (pv 0) (pa_cons (pv 1) pa_nil))))) pa_nil)))), ?_⟩
  walk_at "rn"
  refine ⟨p, _, n, rfl, hp, by omega, by omega, by omega, fun m H3 m0 m1 g3 p3 => ?_⟩
  obtain ⟨m, rfl⟩ := Int.eq_ofNat_of_zero_le m0
  refine lcDraw (K := K) 48 (fun d => isRuleD dsk d = true) (by rw [sizeLine_eq]; omega) p3 ?_ ?_
  · intro i H' N hi g' p' q'
    walk_at "rn"
    exact ⟨p, a, _, dsk, rfl, p', by omega, sqT_gr ha hp (g3.trans g'), l1, l4, fun v d H4 gd fd g4 p4 => q' v d H4 g4 p4 fd gd⟩
  · intro D1 H4 ys ds nD1 g4 eD1 p4 ld F gd
    refine tup_l (.inl (.inl eD1)) ?_
    walk_at "lay"
    rename_i t1 H5 s5 n5 e5
    have g := g3.trans g4
    exact q _ ds H5 (by omega) gd (Fd.tup ((F.same s5).weak g3.dom) e5 (g.none n5)) (g.trans (Gr.of s5)) ((p4.same s5).mono (by omega))
end

set_option Elab.async false
set_option linter.all false
set_option maxRecDepth 100000
set_option maxHeartbeats 4000000
section
variable {P : Program} {w : World} {K : PySem.W.Frag} {mg : Str → Option Value} {base : Heap} {Z : Ad}
theorem firstBad_of (dsk : List Str) : ∀ (rs : List PyData) (i : Nat), (rs ≠ [] → i + rs.length ≤ 8) → (∀ e ∈ rs, isRuleD dsk e = true) → firstBad dsk i rs = none
  | [], _, _, _ => rfl
  | r :: rs, i, h, g => by
    have h := h (by simp)
    simp only [List.length_cons] at h
    unfold firstBad
    rw [if_neg (by rw [g r List.mem_cons_self]; simp; omega)]
    exact firstBad_of dsk rs (i + 1) (fun _ => by omega) fun e m => g e (List.mem_cons_of_mem _ m)
theorem good_of {dsk : List Str} {rs : List PyData} (h : areDesksD (.tuple (dsk.map PyData.str)) = true) (l : rs.length ≤ 8) (g : ∀ e ∈ rs, isRuleD dsk e = true) : goodBook dsk rs := ⟨h, firstBad_of dsk rs 0 (fun _ => by omega) g⟩
theorem good_all {dsk : List Str} {rs : List PyData} (g : goodBook dsk rs) : ∀ e ∈ rs, isRuleD dsk e = true := (firstBad_none dsk rs 0 g.2).2
theorem book_ok {dsk : List Str} {rs : List PyData} (g : goodBook dsk rs) : bookD (.tuple (dsk.map PyData.str)) (.tuple rs) = .ok dsk rs := by
  unfold bookD
  have e : desksOf (.tuple (dsk.map PyData.str)) = dsk := strs_map dsk
  rw [if_pos g.1, e]
  dsimp only
  rw [g.2]
theorem good_okr {dsk : List Str} {rs : List PyData} (g : goodBook dsk rs) : okRules (.tuple rs) := fun rs2 e => by
  cases e
  exact ⟨by have := good_len g; omega, good_rules g⟩
/-- Book(..) of good things -/
theorem make_good {H : Hp} {C ND NR : Addr} {vd vr : V} {dsk : List Str} {rs : List PyData} {Q : Addr → Hp → Prop} {E : XK} (hd : Dp K H vd (.tuple (dsk.map PyData.str))) (hr : Dp K H vr (.tuple rs)) (g : goodBook dsk rs) (q : ∀ x H', Same H H' → BookIs K C H' (.ref x) dsk rs → Q x H') (x dx : Addr) (n1 : H x = none) (n2 : H dx = none) (ne : dx ≠ x) :
    spInit K C ND NR [.ref x, vd, vr] (upd (upd H dx (.own x)) x (.ins C dx [])) (fun v H2 => v = .non ∧ Q x H2) E :=
  madeA hd hr (good_desks g) (good_okr g) (by
    rw [book_ok g]
    intro b H' s bk a e
    subst e
    exact q a H' s bk) x dx n1 n2 ne
theorem ro_ii {H : Hp} {Q : VK} {i j : Int} {r' : R2} (q : Q (.int (i + j)) H) : rOr (rAddU K) r' (.int i) (.int j) H Q := .inl (by rw [rAddU_ii]; exact q)
theorem keepL_all {k : Int} : ∀ (B : List PyData) (i : Nat), k < i → keepL [k] i B = B
  | [], _, _ => rfl
  | e :: B, i, h => by
    unfold keepL
    rw [if_neg (by simp; omega), keepL_all B (i + 1) (by omega)]
theorem keepL_one (x : PyData) (B : List PyData) : ∀ (A : List PyData) (i : Nat), keepL [((i + A.length : Nat) : Int)] i (A ++ x :: B) = A ++ B
  | [], i => by
    show keepL [((i + 0 : Nat) : Int)] i (x :: B) = B
    unfold keepL
    rw [if_pos (by simp), keepL_all B (i + 1) (by omega)]
  | e :: A, i => by
    have ih := keepL_one x B A (i + 1)
    rw [show i + 1 + A.length = i + (e :: A).length by simp; omega] at ih
    rw [List.cons_append]
    unfold keepL
    rw [if_neg (by simp; omega), ih]
    rfl
theorem swap_mid (a b : PyData) (B : List PyData) : ∀ A : List PyData, swapL (A ++ [b, a] ++ B) A.length = A ++ a :: b :: B
  | A => by
    unfold swapL
    rw [List.append_assoc]
    simp
def spMade (K : PySem.W.Frag) (C : Addr) : Sp := fun vs H Q _ => ∃ way vd vr dsk rs, vs = [.int way, vd, vr] ∧ 0 ≤ way ∧ Dp K H vd (.tuple (dsk.map PyData.str)) ∧ Dp K H vr (.tuple rs) ∧ goodBook dsk rs ∧ ∀ b H', Same H H' → BookIs K C H' b dsk rs → Q b H'
theorem d__law_made (T : TX P K mg Z) : DefOk P w K mg base "_law_made" ["way", "desks", "rules"] 8 (spMade K Z.Book) := by
  refine T.f__law_made.ok sc__law_made (by rintro _ _ _ _ ⟨_, _, _, _, _, rfl, _⟩; rfl) fun f cdv A outer s H vs Q E hr h => ?_
  obtain ⟨way, vd, vr, dsk, rs, rfl, w0, hd, hv, g, q⟩ := h
  refine ⟨_, (pss_cons (ps_set (i := 3) sc__law_made.nd rfl (by first | exact Or.inl rfl | exact Or.inr rfl) (pe_callB (kLen (K := K)) (by rfl) T.b_len PySem.boot_len (pa_cons (pv 2) pa_nil))) (pss_cons (ps_set (i := 4) sc__law_made.nd rfl (by first | exact Or.inl rfl | exact Or.inr rfl) (pe_op op_mod (pe_callTy call_int1 (by rfl) T.b_int (by decide +kernel) (pa_cons (pe_op op_fdivW (pv 0) pe_int) pa_nil)) (pe_op (opOr (kAdd (K := K)) (op_addO (m_Book_add T) hr T.sf_Book passL)) (pv 3) pe_int))) (pss_cons (ps_if (pt_cmpR (kEq (K := K) hr.units) (pe_op op_mod (pv 0) pe_int) pe_int (nomark _)) (pss_one (ps_ret (pe_op (opOr (kAdd (K := K)) (op_addO (m_Book_add T) hr T.sf_Book passL)) (pe_makeD (mk_Book T) hr rfl passL (pa_cons (pv 1) (pa_cons (pe_slice (kSl (K := K)) (pv 2) po_none (po_some (pv 4))) pa_nil))) (pe_makeD (mk_Book T) hr rfl passL (pa_cons (pv 1) (pa_cons (pe_slice (kSl (K := K)) (pv 2) (po_some (pv 4)) po_none) pa_nil)))))) pss_nil) (pss_cons (ps_if (PW.pt (pw_and (pt_cmpR (kEq (K := K) hr.units) (pe_op op_mod (pv 0) pe_int) pe_int (nomark _)) (pw_and1 (pt_cmpR op_lt (pv 3) pe_int (nomark _))))) (pss_cons (ps_set (i := 5) sc__law_made.nd rfl (by first | exact Or.inl rfl | exact Or.inr rfl) (pe_tup (pa_cons pe_str (pa_cons (pe_tup pa_nil) (pa_cons (pe_tup (pa_cons (pe_tup (pa_cons pe_str pa_nil)) pa_nil)) pa_nil))))) (pss_one (ps_ret (pe_methD (m_Book_without T) hr (pe_makeD (mk_Book T) hr rfl passL (pa_cons (pv 1) (pa_cons (pe_op (opOr (kAdd (K := K)) (op_addO (m_Book_add T) hr T.sf_Book passL)) (pe_op (opOr (kAdd (K := K)) (op_addO (m_Book_add T) hr T.sf_Book passL)) (pe_slice (kSl (K := K)) (pv 2) po_none (po_some (pv 4))) (pe_tup (pa_cons (pv 5) pa_nil))) (pe_slice (kSl (K := K)) (pv 2) (po_some (pv 4)) po_none)) pa_nil))) passL (pa_cons (pe_tup (pa_cons (pv 4) pa_nil)) pa_nil))))) pss_nil) (pss_cons (ps_if (PW.pt (pw_and (pt_cmpR (kEq (K := K) hr.units) (pe_op op_mod (pv 0) pe_int) pe_int (nomark _)) (pw_and1 (pt_cmpR op_lt (pe_op (opOr (kAdd (K := K)) (op_addO (m_Book_add T) hr T.sf_Book passL)) (pv 4) pe_int) (pv 3) (nomark _))))) (pss_one (ps_ret (pe_methD (m_Book_exchanged T) hr (pe_makeD (mk_Book T) hr rfl passL (pa_cons (pv 1) (pa_cons (pe_op (opOr (kAdd (K := K)) (op_addO (m_Book_add T) hr T.sf_Book passL)) (pe_op (opOr (kAdd (K := K)) (op_addO (m_Book_add T) hr T.sf_Book passL)) (pe_slice (kSl (K := K)) (pv 2) po_none (po_some (pv 4))) (pe_tup (pa_cons (pe_ix (kIx (K := K)) (pv 2) (pe_op (opOr (kAdd (K := K)) (op_addO (m_Book_add T) hr T.sf_Book passL)) (pv 4) pe_int) (fun _ _ => rfl)) (pa_cons (pe_ix (kIx (K := K)) (pv 2) (pv 4) (fun _ _ => rfl)) pa_nil)))) (pe_slice (kSl (K := K)) (pv 2) (po_some (pe_op (opOr (kAdd (K := K)) (op_addO (m_Book_add T) hr T.sf_Book passL)) (pv 4) pe_int)) po_none)) pa_nil))) passL (pa_cons (pv 4) pa_nil)))) pss_nil) (pss_one (ps_ret (pe_makeD (mk_Book T) hr rfl passL (pa_cons (pv 1) (pa_cons (pv 2) pa_nil)))))))))), ?_⟩
  walk_at "rn"
  refine len_dp hv ?_
  walk_at "rn"
  refine ⟨⟨by decide, by decide +kernel⟩, ro_ii ⟨_, rfl, by omega, by decide, ?_⟩⟩
  have k0 : 0 ≤ way / 4 % ((rs.length : Int) + 1) := Int.emod_nonneg _ (by omega)
  have k1 : way / 4 % ((rs.length : Int) + 1) < (rs.length : Int) + 1 := Int.emod_lt_of_pos _ (by omega)
  obtain ⟨k, hk⟩ := Int.eq_ofNat_of_zero_le k0
  rw [hk] at k1 ⊢
  have kl : k ≤ rs.length := by omega
  have gl := good_len g
  have ga := good_all g
  by_cases c1 : way % 4 = 1
  · rw [if_pos (decide_eq_true c1)]
    have g1 : goodBook dsk (rs.take k) := good_of g.1 (by rw [List.length_take]; omega) fun e m => ga e (List.mem_of_mem_take m)
    have g2 : goodBook dsk (rs.drop k) := good_of g.1 (by rw [List.length_drop]; omega) fun e m => ga e (List.mem_of_mem_drop m)
    refine sl_dp hv fun v1 H1 s1 h1 => ?_
    rw [cutD_to kl] at h1
    refine make_good (dpSame s1 hd) h1 g1 fun x H2 s2 bk1 => ?_
    have s12 := s1.trans s2
    refine sl_dp (dpSame s12 hv) fun v2 H3 s3 h2 => ?_
    rw [cutD_from kl] at h2
    refine make_good (dpSame (s12.trans s3) hd) h2 g2 fun y H4 s4 bk2 => ?_
    obtain ⟨a, dxa, vda, vra, ea, ha, da⟩ := id (bk1.same (s3.trans s4))
    obtain ⟨b, dxb, vdb, vrb, eb, hb, db⟩ := id bk2
    cases ea
    cases eb
    refine .inr ⟨_, _, _, _, _, _, rfl, rfl, ha, hb, _, _, _, _, _, _, rfl, bk1.same (s3.trans s4), bk2, ?_⟩
    rw [if_pos rfl, List.take_append_drop, book_ok g]
    exact fun b H5 s5 h5 => q b H5 (((s12.trans s3).trans s4).trans s5) h5
  · rw [if_neg (by simpa using c1)]
    refine ⟨by decide, ?_⟩
    have red : ∀ {A B : Prop} [Decidable A] [Decidable B] {X Y : Prop}, ¬ (A ∧ B) → (if decide A = true then (if decide B = true then X else Y) else Y) = Y := fun {A B} _ _ {X Y} h => by
      by_cases a : A <;> by_cases b : B <;> simp [a, b]
      exact absurd ⟨a, b⟩ h
    by_cases c2 : way % 4 = 2 ∧ (rs.length : Int) < 8
    · rw [if_pos (decide_eq_true c2.1), if_pos (decide_eq_true c2.2)]
      have l8 : rs.length < 8 := by omega
      refine ⟨by decide +kernel, ?_⟩
      walk_at "lay"
      rename_i t1 H1 s1 n1 e1
      refine ⟨by decide +kernel, ?_⟩
      walk_at "lay"
      rename_i t2 H2 s2 n2 e2
      refine ⟨by decide +kernel, ?_⟩
      walk_at "lay"
      rename_i t3 H3 s3 n3 e3
      refine ⟨by decide +kernel, ?_⟩
      walk_at "lay"
      rename_i t4 H4 s4 n4 e4
      have s14 := ((s1.trans s2).trans s3).trans s4
      have hm : Dp K H4 (.ref t4) (.tuple [.str "day", .tuple [], .tuple [.tuple [.str "stop"]]]) :=
        .tup (.inl (.inl e4)) (.cons (.str _) (.cons (.tup (.inl (.inl (((s2.trans s3).trans s4) _ _ e1))) .nil) (.cons (.tup (.inl (.inl (s4 _ _ e3))) (.cons (.tup (.inl (.inl ((s3.trans s4) _ _ e2))) (.cons (.str _) .nil)) .nil)) .nil)))
      refine sl_dp (dpSame s14 hv) fun v1 H5 s5 h1 => ⟨by decide +kernel, ?_⟩
      rw [cutD_to kl] at h1
      walk_at "lay"
      rename_i t6 H6 s6 n6 e6
      have hm6 : Dp K H6 (.ref t6) (.tuple [.tuple [.str "day", .tuple [], .tuple [.tuple [.str "stop"]]]]) := .tup (.inl (.inl e6)) (.cons (dpSame (s5.trans s6) hm) .nil)
      refine .inl (cat_dp (dpSame s6 h1) hm6 (by rw [List.length_take]; omega) (by decide) fun v2 H7 s7 h2 => ?_)
      have s17 := ((s14.trans s5).trans s6).trans s7
      refine sl_dp (dpSame s17 hv) fun v3 H8 s8 h3 => ?_
      rw [cutD_from kl] at h3
      refine .inl (cat_dp (dpSame s8 h2) h3 (by simp; omega) (by simp; omega) fun v4 H9 s9 h4 => ?_)
      have s19 := (s17.trans s8).trans s9
      have g2 : goodBook dsk (rs.take k ++ [.tuple [.str "day", .tuple [], .tuple [.tuple [.str "stop"]]]] ++ rs.drop k) := good_of g.1 (by simp; omega) fun e m => by
        rcases List.mem_append.mp m with m | m
        · rcases List.mem_append.mp m with m | m
          · exact ga e (List.mem_of_mem_take m)
          · rw [List.mem_singleton.mp m]
            rfl
        · exact ga e (List.mem_of_mem_drop m)
      refine make_good (dpSame s19 hd) h4 g2 fun x H10 s10 bk => ?_
      obtain ⟨a, dxa, vda, vra, ea, ha, da⟩ := id bk
      cases ea
      refine ⟨_, _, ha, rfl, by decide +kernel, ?_⟩
      walk_at "lay"
      rename_i t5 H11 s11 n11 e11
      have lk : (rs.take k).length = k := by rw [List.length_take]; omega
      refine .inl ⟨_, dsk, _, _, .tuple [.int (k : Nat)], rfl, bk.same s11, .tup (.inl (.inl e11)) (.cons (.int _) .nil), fun ds e => ?_, ?_⟩
      · cases e
        simp
      · dsimp only
        have ho : outs (rs.take k ++ [PyData.tuple [.str "day", .tuple [], .tuple [.tuple [.str "stop"]]]] ++ rs.drop k).length [] [.int (k : Nat)] = .inr [((k : Nat) : Int)] := by
          unfold outs
          rw [if_pos ⟨by simp [hasD]; omega, by simp⟩]
          rfl
        rw [ho]
        have ek := keepL_one (.tuple [.str "day", .tuple [], .tuple [.tuple [.str "stop"]]]) (rs.drop k) (rs.take k) 0
        rw [lk, Nat.zero_add, List.take_append_drop] at ek
        dsimp only
        rw [List.append_assoc, List.singleton_append, ek, book_ok g]
        exact fun b H12 s12 h12 => q b H12 (((s19.trans s10).trans s11).trans s12) h12
    · rw [red c2]
      refine ⟨by decide, ?_⟩
      have last : ∀ H1, Same H H1 → ∀ x dx : Addr, H1 x = none → H1 dx = none → dx ≠ x → spInit K Z.Book Z.NoDesks Z.NoRule [V.ref x, vd, vr] (upd (upd H1 dx (HO.own x)) x (HO.ins Z.Book dx [])) (fun v H2 => v = V.non ∧ Q (V.ref x) H2) E0 := fun H1 s1 => make_good (dpSame s1 hd) (dpSame s1 hv) g fun x H' s bk => q _ H' (s1.trans s) bk
      by_cases c3 : way % 4 = 3
      · rw [if_pos (decide_eq_true c3)]
        refine ro_ii ⟨_, rfl, ?_⟩
        by_cases c4 : (k : Int) + 1 < (rs.length : Int)
        · rw [if_pos (decide_eq_true c4)]
          have hk0 : k < rs.length := by omega
          have hk1 : k + 1 < rs.length := by omega
          refine sl_dp hv fun v1 H1 s1 h1 => ro_ii ?_
          rw [cutD_to kl] at h1
          have ea : (k : Int) + 1 = ((k + 1 : Nat) : Int) := by omega
          rw [ea]
          refine ix_dp (dpSame s1 hv) (List.getElem?_eq_getElem hk1) fun w1 hw1 => ix_dp (dpSame s1 hv) (List.getElem?_eq_getElem hk0) fun w0 hw0 => ⟨by decide +kernel, ?_⟩
          walk_at "lay"
          rename_i t H2 s2 n2 e2
          refine .inl (cat_dp (dpSame s2 h1) (.tup (.inl (.inl e2)) (.cons (dpSame s2 hw1) (.cons (dpSame s2 hw0) .nil))) (by rw [List.length_take]; omega) (by simp) fun v2 H3 s3 h2 => ro_ii ⟨_, rfl, ?_⟩)
          have eb : (k : Int) + 2 = ((k + 2 : Nat) : Int) := by omega
          rw [eb]
          have s13 := (s1.trans s2).trans s3
          refine sl_dp (dpSame s13 hv) fun v3 H4 s4 h3 => ?_
          rw [cutD_from (by omega)] at h3
          refine .inl (cat_dp (dpSame s4 h2) h3 (by simp; omega) (by simp; omega) fun v4 H5 s5 h4 => ?_)
          have s15 := (s13.trans s4).trans s5
          have lk : (rs.take k).length = k := by rw [List.length_take]; omega
          have er : rs.take k ++ rs[k] :: rs[k + 1] :: rs.drop (k + 2) = rs := by
            rw [← List.drop_eq_getElem_cons hk1, ← List.drop_eq_getElem_cons hk0, List.take_append_drop]
          have g2 : goodBook dsk (rs.take k ++ [rs[k + 1], rs[k]] ++ rs.drop (k + 2)) := good_of g.1 (by simp; omega) fun e m => by
            rcases List.mem_append.mp m with m | m
            · rcases List.mem_append.mp m with m | m
              · exact ga e (List.mem_of_mem_take m)
              · rcases List.mem_cons.mp m with rfl | m
                · exact ga _ (List.getElem_mem _)
                · rw [List.mem_singleton.mp m]
                  exact ga _ (List.getElem_mem _)
            · exact ga e (List.mem_of_mem_drop m)
          refine make_good (dpSame s15 hd) h4 g2 fun x H6 s6 bk => ?_
          obtain ⟨a, dxa, vda, vra, ex, ha, da⟩ := id bk
          cases ex
          refine ⟨_, _, ha, rfl, _, dsk, _, _, .int (k : Nat), rfl, bk, .int _, ?_⟩
          rw [if_pos (by simp [hasD]; omega)]
          intro i ei
          have ei : i = k := by injection ei with ei; omega
          subst ei
          have es := swap_mid rs[i] rs[i + 1] (rs.drop (i + 2)) (rs.take i)
          rw [lk] at es
          rw [es, er, book_ok g]
          exact fun b H7 s7 h7 => q b H7 ((s15.trans s6).trans s7) h7
        · rw [if_neg (by simpa using c4)]
          exact last H (Same.refl H)
      · rw [if_neg (by simpa using c3)]
        exact last H (Same.refl H)
end

set_option Elab.async false
set_option linter.all false
set_option maxRecDepth 100000
set_option maxHeartbeats 4000000
section
variable {P : Program} {w : World} {K : PySem.W.Frag} {mg : Str → Option Value} {base : Heap} {Z : Ad}
theorem okAl_cases : ∀ {n : Nat} {d : PyData}, okAl n d → leafD d = true ∨ ∃ m ds, n = m + 1 ∧ (d = .tuple ds ∨ d = .list ds) ∧ ds.length ≤ 500000 ∧ ∀ e ∈ ds, okAl m e
  | 0, _, h => .inl h
  | n + 1, .tuple ds, h => .inr ⟨n, ds, rfl, .inl rfl, h.1, h.2⟩
  | n + 1, .list ds, h => .inr ⟨n, ds, rfl, .inr rfl, h.1, h.2⟩
  | n + 1, .none, _ => .inl rfl
  | n + 1, .bool _, _ => .inl rfl
  | n + 1, .int _, _ => .inl rfl
  | n + 1, .str _, _ => .inl rfl
  | n + 1, .dict _, h => .inl h
theorem leaf_no {d : PyData} (h : leafD d = true) : isD "tuple" d = false ∧ isD "list" d = false := by
  cases d <;> first | exact Bool.noConfusion h | exact ⟨by simp [isD, tyD], by simp [isD, tyD]⟩
theorem seq_yes {d : PyData} {ds : List PyData} (h : d = .tuple ds ∨ d = .list ds) : (isD "tuple" d || isD "list" d) = true := by
  rcases h with rfl | rfl <;> simp [isD, tyD]
theorem dp_seq {H : Hp} {x : V} {d : PyData} {ds : List PyData} (h : Dp K H x d) (e : d = .tuple ds ∨ d = .list ds) : ∃ a xs, x = .ref a ∧ (SqL K H a xs ∨ SqT K H a xs) ∧ DpAll K H xs ds := by
  rcases e with rfl | rfl
  · obtain ⟨a, xs, e, h1, h2⟩ := dp_tup h
    exact ⟨a, xs, e, .inr h1, h2⟩
  · obtain ⟨a, xs, e, h1, h2⟩ := dp_lst h
    exact ⟨a, xs, e, .inl h1, h2⟩
/-- alike(x, x) -/
def spA (K : PySem.W.Frag) : Nat → Sp
  | 0 => fun _ _ _ _ => False
  | n + 1 => fun vs H Q _ => ∃ x y d, vs = [x, y] ∧ Dp K H x d ∧ Dp K H y d ∧ okAl n d ∧ ∀ H', Same H H' → Q (.bl true) H'
theorem d_alike (T : TX P K mg Z) : ∀ n, DefOk P w K mg base "_law_alike" ["found", "due"] (n + 1) (spA K n)
  | 0 => T.f__law_alike.ok sc__law_alike (fun _ _ _ _ h => h.elim) fun f cdv A outer s H vs Q E hr h => h.elim
  | n + 1 => by
    have ih := d_alike T n
    have d__law_alike : TX P K mg Z → DefOk P w K mg base "_law_alike" ["found", "due"] (n + 1) (spA K n) := fun _ => ih
    refine T.f__law_alike.ok sc__law_alike (by rintro _ _ _ _ ⟨_, _, _, rfl, _⟩; rfl) fun f cdv A outer s H vs Q E hr h => ?_
    obtain ⟨x, y, d, rfl, hx, hy, ok, q⟩ := h
    refine ⟨_, (pss_cons (ps_if (PW.pt (pw_or (pt_cmpR (kNe (K := K) hr.units) (pe_callB (kIsi (K := K)) (by rfl) T.b_isinstance (by decide +kernel) (pa_cons (pv 0) (pa_cons (pe_ty (n := "tuple") T.b_tuple) pa_nil))) (pe_callB (kIsi (K := K)) (by rfl) T.b_isinstance (by decide +kernel) (pa_cons (pv 1) (pa_cons (pe_ty (n := "tuple") T.b_tuple) pa_nil))) (nomark _)) (pw_or1 (pt_cmpR (kNe (K := K) hr.units) (pe_callB (kIsi (K := K)) (by rfl) T.b_isinstance (by decide +kernel) (pa_cons (pv 0) (pa_cons (pe_ty (n := "list") T.b_list) pa_nil))) (pe_callB (kIsi (K := K)) (by rfl) T.b_isinstance (by decide +kernel) (pa_cons (pv 1) (pa_cons (pe_ty (n := "list") T.b_list) pa_nil))) (nomark _))))) (pss_one (ps_ret pe_bl)) pss_nil) (pss_cons (ps_if (pt_val (pe_callB (kIsiT (K := K)) (by rfl) T.b_isinstance (by decide +kernel) (pa_cons (pv 1) (pa_cons (pe_tup (pa_cons (pe_ty (n := "tuple") T.b_tuple) (pa_cons (pe_ty (n := "list") T.b_list) pa_nil))) pa_nil)))) (pss_cons (ps_if (pt_cmpR (kNe (K := K) hr.units) (pe_callB (kLen (K := K)) (by rfl) T.b_len PySem.boot_len (pa_cons (pv 0) pa_nil)) (pe_callB (kLen (K := K)) (by rfl) T.b_len PySem.boot_len (pa_cons (pv 1) pa_nil)) (nomark _)) (pss_one (ps_ret pe_bl)) pss_nil) (pss_one (ps_ret (pe_cmpR (kEq (K := K) hr.units) (pe_lc (own := [("k", 2)]) rfl sc__law_alike.nd (pi_range1 rfl T.b_range (pa_cons (pe_callB (kLen (K := K)) (by rfl) T.b_len PySem.boot_len (pa_cons (pv 1) pa_nil)) pa_nil)) (blkOk_by (N := ["found", "due", "k"]) (sc := defScope s__law_alike) (own := [("k", 2)]) (by decide +kernel)) (fun _ _ _ _ _ => (pg_name (i := 2) sc__law_alike.nd rfl (by first | exact Or.inl rfl | exact Or.inr rfl))) (fun _ _ _ _ _ => (pts_one (pt_not (pt_val (pe_callD (d__law_alike T) hr rfl passL (pa_cons (pe_ix (kIx (K := K)) (pv 0) (pv 2) (fun _ _ => rfl)) (pa_cons (pe_ix (kIx (K := K)) (pv 1) (pv 2) (fun _ _ => rfl)) pa_nil))))))) (fun _ _ _ _ _ => (pv 2))) (pe_lst pa_nil) (nomark _))))) pss_nil) (pss_cons (ps_if (PW.pt (pw_or (pt_cmpR (kNe (K := K) hr.units) (pe_callB (kIsi (K := K)) (by rfl) T.b_isinstance (by decide +kernel) (pa_cons (pv 0) (pa_cons (pe_ty (n := "bool") T.b_bool) pa_nil))) (pe_callB (kIsi (K := K)) (by rfl) T.b_isinstance (by decide +kernel) (pa_cons (pv 1) (pa_cons (pe_ty (n := "bool") T.b_bool) pa_nil))) (nomark _)) (pw_or1 (pt_cmpR (kNe (K := K) hr.units) (pe_callB (kIsi (K := K)) (by rfl) T.b_isinstance (by decide +kernel) (pa_cons (pv 0) (pa_cons (pe_ty (n := "str") T.b_str) pa_nil))) (pe_callB (kIsi (K := K)) (by rfl) T.b_isinstance (by decide +kernel) (pa_cons (pv 1) (pa_cons (pe_ty (n := "str") T.b_str) pa_nil))) (nomark _))))) (pss_one (ps_ret pe_bl)) pss_nil) (pss_one (ps_ret (pe_cmpR (kEq (K := K) hr.units) (pv 0) (pv 1) (nomark _))))))), ?_⟩
    walk_at "rn"
    refine isi_dp hx (isi_dp hy ?_)
    walk_at "rn"
    refine isi_dp hx (isi_dp hy ?_)
    walk_at "rn"
    refine ⟨by decide +kernel, ?_⟩
    walk_at "lay"
    rename_i p H1 s1 n1 e1
    refine isiT_dp e1 (dpSame s1 hy) ⟨_, rfl, ?_⟩
    rcases okAl_cases ok with lf | ⟨m, ds, rfl, ed, wide, deep⟩
    · obtain ⟨l1, l2⟩ := leaf_no lf
      rw [l1, l2, if_neg (by decide)]
      refine isi_dp (dpSame s1 hx) (isi_dp (dpSame s1 hy) ?_)
      walk_at "rn"
      refine isi_dp (dpSame s1 hx) (isi_dp (dpSame s1 hy) ?_)
      walk_at "rn"
      exact leaf_eq (dpSame s1 hx) (dpSame s1 hy) lf (q H1 s1)
    · rw [if_pos (seq_yes ed)]
      obtain ⟨a, xs, rfl, sx, dx⟩ := dp_seq (dpSame s1 hx) ed
      obtain ⟨b, ys, rfl, sy, dy⟩ := dp_seq (dpSame s1 hy) ed
      have lx := dps_len dx
      have ly := dps_len dy
      refine .inl ⟨a, xs, rfl, sx, .inl ⟨b, ys, rfl, sy, ?_⟩⟩
      rw [lx, ly]
      walk_at "rn"
      refine .inl ⟨b, ys, rfl, sy, ?_⟩
      refine lcRf (K := K) (by rw [sizeLine_eq]; omega) (fun _ => []) rfl (fun _ => Nat.zero_le _) ?_ ?_
      · intro i H2 N hi s2 nf nt
        obtain ⟨e, he⟩ : ∃ e, ds[i]? = some e := ⟨_, List.getElem?_eq_getElem (by omega)⟩
        obtain ⟨u, hu, du⟩ := dps_at dx he
        obtain ⟨v, hv, dv⟩ := dps_at dy he
        walk_at "rn"
        have iu : ∀ Q : VK, Q u H2 → rIxU K (.ref a) (.int (i : Nat)) H2 Q := fun Q z => .inl ⟨a, xs, _, u, rfl, rfl, sx.elim (fun h => .inl (s2.seq h)) (fun h => .inr (same_seqT s2 h)), atI_nat hu, z⟩
        have iv : ∀ Q : VK, Q v H2 → rIxU K (.ref b) (.int (i : Nat)) H2 Q := fun Q z => .inl ⟨b, ys, _, v, rfl, rfl, sy.elim (fun h => .inl (s2.seq h)) (fun h => .inr (same_seqT s2 h)), atI_nat hv, z⟩
        refine iu _ (iv _ ⟨_, _, e, rfl, dpSame s2 du, dpSame s2 dv, deep e (List.mem_of_getElem? he), fun H3 s3 => ⟨_, rfl, ?_⟩⟩)
        rw [if_neg (by decide)]
        exact nf H3 s3 rfl
      · intro D H2 nD s2 eD
        refine ⟨by decide +kernel, ?_⟩
        walk_at "lay"
        rename_i l H3 s3 n3 e3
        rw [rEqU_r]
        exact ⟨.list [], .list [], .lst (.inl (.inl (s3 _ _ eD))) .nil, .lst (.inl (.inl e3)) .nil, rfl, rfl, q H3 ((s1.trans s2).trans s3)⟩
end

set_option Elab.async false
set_option linter.all false
set_option maxRecDepth 100000
set_option maxHeartbeats 4000000
/-! Books written. -/
section
variable {P : Program} {w : World} {K : PySem.W.Frag} {mg : Str → Option Value} {base : Heap} {Z : Ad}
def spTxt (K : PySem.W.Frag) (good : PyData → Prop) (g : PyData → Str) : Sp := fun vs H Q _ => ∃ v d, vs = [v] ∧ Dp K H v d ∧ good d ∧ ∀ H', Same H H' → Q (.str (g d)) H'
theorem spTxt_len {good : PyData → Prop} {g : PyData → Str} : ∀ vs H Q E, spTxt K good g vs H Q E → vs.length = 1 := by
  rintro _ _ _ _ ⟨_, _, rfl, _⟩
  rfl
theorem join_dp {H : Hp} {Q : VK} {s : Str} {v : V} {zs : List Str} {m : Nat} (h : Dp K H v (.tuple (zs.map PyData.str))) (hm : ∀ z ∈ zs, z.length ≤ m) (l : zs.length ≤ 300) (hm2 : m ≤ 1000) (hs : s.length ≤ 10) (q : Q (.str (Txt.join s zs)) H) : rJoin K (.str s) [v] H Q := by
  obtain ⟨a, rfl, hsq⟩ := dp_strs h
  refine ⟨s, a, zs, rfl, rfl, .inr hsq, ?_, q⟩
  have a := sum_le zs hm
  have b : zs.length * m ≤ 300 * 1000 := Nat.mul_le_mul l hm2
  have c : zs.length * s.length ≤ 300 * 10 := Nat.mul_le_mul l hs
  omega
theorem join_lst {H : Hp} {Q : VK} {s : Str} {D : Addr} {zs : List Str} {m : Nat} (h : H D = some (.lst (zs.map V.str))) (hm : ∀ z ∈ zs, z.length ≤ m) (l : zs.length ≤ 300) (hm2 : m ≤ 1000) (hs : s.length ≤ 10) (q : Q (.str (Txt.join s zs)) H) : rJoin K (.str s) [.ref D] H Q := by
  refine ⟨s, D, zs, rfl, rfl, .inl (.inl (.inl h)), ?_, q⟩
  have a := sum_le zs hm
  have b : zs.length * m ≤ 300 * 1000 := Nat.mul_le_mul l hm2
  have c : zs.length * s.length ≤ 300 * 10 := Nat.mul_le_mul l hs
  omega
theorem size_le {n : Nat} (h : n ≤ 100000) : n ≤ sizeLine := by rw [sizeLine_eq]; omega
theorem ix_last3 {H : Hp} {Q : VK} {v : V} {x y z : PyData} (h : Dp K H v (.tuple [x, y, z])) (q : ∀ u, Dp K H u z → Q u H) : rIxU K v (.int (-1)) H Q := by
  obtain ⟨a, xs, rfl, sx, dx⟩ := dp_tup h
  cases dx with | cons _ dx =>
  cases dx with | cons _ dx =>
  cases dx with | cons h3 dx =>
  cases dx
  exact ix_t sx rfl (q _ h3)
theorem ix_last2 {H : Hp} {Q : VK} {v : V} {y z : PyData} (h : Dp K H v (.tuple [y, z])) (q : ∀ u, Dp K H u z → Q u H) : rIxU K v (.int (-1)) H Q := by
  obtain ⟨a, xs, rfl, sx, dx⟩ := dp_tup h
  cases dx with | cons _ dx =>
  cases dx with | cons h3 dx =>
  cases dx
  exact ix_t sx rfl (q _ h3)
theorem ix_last1 {H : Hp} {Q : VK} {v : V} {z : PyData} (h : Dp K H v (.tuple [z])) (q : ∀ u, Dp K H u z → Q u H) : rIxU K v (.int (-1)) H Q := by
  obtain ⟨a, xs, rfl, sx, dx⟩ := dp_tup h
  cases dx with | cons h3 dx =>
  cases dx
  exact ix_t sx rfl (q _ h3)
theorem kinds8 : ∀ k : Str, k ∈ ([("status" : Str), "desk", "answered", "marked", "days", "reply", "mark", "stop"] : List Str) → k.length ≤ 8 := by decide +kernel
theorem fmt_day {n : Int} (h1 : 1 ≤ n) (h2 : n ≤ 30) : n.natAbs.log2 < 1920 := by
  have a : n.natAbs ≤ 30 := by omega
  have b : n.natAbs.log2 ≤ 30 := Nat.le_trans (Nat.log2_le_self _) a
  omega
theorem days_text (n : Int) : Str.empty ++ ("days " : Str) ++ (toString n : Str) = Txt.join " " [("days" : Str), (toString n : Str)] := by
  rw [two_join, Str.empty_append, show ("days " : Str) = ("days" : Str) ++ (" " : Str) by decide +kernel]
theorem d__test_text (T : TX P K mg Z) : DefOk P w K mg base "_test_text" ["test"] 2 (spTxt K TestB testS) := by
  refine T.f__test_text.ok sc__test_text spTxt_len fun f cdv A outer s H vs Q E hr h => ?_
  obtain ⟨v, d, rfl, hv, gd, q⟩ := h
  have gl := gd.len
  refine ⟨_, (pss_cons (ps_if (pt_cmpR (kEq (K := K) hr.units) (pe_ix (kIx (K := K)) (pv 0) pe_int (fun _ _ => rfl)) pe_str (nomark _)) (pss_one (ps_ret (pe_joined (PJ.cons pe_str (PJ.cons (pe_fmt (pe_ix (kIx (K := K)) (pv 0) pe_int (fun _ _ => rfl))) PJ.nil))))) pss_nil) (pss_cons (ps_set (i := 1) sc__test_text.nd rfl (by first | exact Or.inl rfl | exact Or.inr rfl) (kJoin (K := K) pe_str (pe_slice (kSl (K := K)) (pv 0) po_none (po_some (pe_un un_neg pe_int))))) (pss_one (ps_ret (pe_ifExp (pt_val (pe_ix (kIx (K := K)) (pv 0) (pe_un un_neg pe_int) (fun _ _ => rfl))) (pv 1) (pe_op op_add_str pe_str (pv 1))))))), ?_⟩
  walk_at "rn"
  obtain ⟨dsk, gd, sh⟩ := gd.ex
  have e4 : ("not " : Str).length = 4 := by decide +kernel
  have e1 : (" " : Str).length = 1 := by decide +kernel
  have three : ∀ (k z : Str) (b : Bool), k ∈ ([("status" : Str), "desk"] : List Str) → z.length ≤ 8 → d = .tuple [.str k, .str z, .bool b] → rIxU K v (.int 0) H fun x H1 => rEqU K x (V.str (Str.ofString "days")) H1 fun x H' => ∃ k, x = V.bl k ∧ if k = true then tJs [tC (V.str (Str.ofString "days ")), tFmt (tOp (rIxU K) (tVar 0) (tC (V.int 1)))] Str.empty [some v, none] H' (fun out H1 => Q (V.str out) H1)
      else (∃ a, Str.ofString " " = a) ∧ rSlU K v none (some (-1)) H' fun y H2 => rJoin K (V.str (Str.ofString " ")) [y] H2 fun x H1 => rIxU K v (V.int (-1)) H1 fun x_1 H1 => ∃ c, x_1 = V.bl c ∧ if c = true then Q x H1 else ∃ x_2, x = V.str x_2 ∧ (Str.ofString "not ").length + x_2.length ≤ sizeLine ∧ Q (V.str (Str.ofString "not " ++ x_2)) H1 := by
    rintro k z b mk lz rfl
    refine ix_dp (i := 0) hv rfl fun u du => ?_
    cases dp_str du
    rw [rEqU_ss]
    have nk : k ≠ "days" := by
      simp only [List.mem_cons, List.not_mem_nil, or_false] at mk
      rcases mk with rfl | rfl <;> decide
    have lk : k.length ≤ 8 := kinds8 k (by
      simp only [List.mem_cons, List.not_mem_nil, or_false] at mk
      rcases mk with rfl | rfl <;> simp)
    refine ⟨_, rfl, ?_⟩
    rw [if_neg (by simpa using nk)]
    refine ⟨⟨_, rfl⟩, sl_dp hv fun y H2 s2 dy => ?_⟩
    refine join_dp (zs := [k, z]) (m := 8) dy (by intro x mx; simp only [List.mem_cons, List.not_mem_nil, or_false] at mx; rcases mx with rfl | rfl <;> assumption) (by simp) (by decide) (by rw [e1]; decide) ?_
    refine ix_last3 (dpSame s2 hv) fun u du => ?_
    cases dp_bool du
    have tl := two_len lk lz
    refine ⟨_, rfl, ?_⟩
    cases b with
    | true =>
      rw [if_pos rfl]
      exact q H2 s2
    | false =>
      rw [if_neg (by decide)]
      refine ⟨_, rfl, ?_, q H2 s2⟩
      show ("not " : Str).length + _ ≤ _
      rw [e4]
      exact size_le (by omega)
  have two : ∀ (k : Str) (b : Bool), k ∈ ([("answered" : Str), "marked"] : List Str) → d = .tuple [.str k, .bool b] → rIxU K v (.int 0) H fun x H1 => rEqU K x (V.str (Str.ofString "days")) H1 fun x H' => ∃ k, x = V.bl k ∧ if k = true then tJs [tC (V.str (Str.ofString "days ")), tFmt (tOp (rIxU K) (tVar 0) (tC (V.int 1)))] Str.empty [some v, none] H' (fun out H1 => Q (V.str out) H1)
      else (∃ a, Str.ofString " " = a) ∧ rSlU K v none (some (-1)) H' fun y H2 => rJoin K (V.str (Str.ofString " ")) [y] H2 fun x H1 => rIxU K v (V.int (-1)) H1 fun x_1 H1 => ∃ c, x_1 = V.bl c ∧ if c = true then Q x H1 else ∃ x_2, x = V.str x_2 ∧ (Str.ofString "not ").length + x_2.length ≤ sizeLine ∧ Q (V.str (Str.ofString "not " ++ x_2)) H1 := by
    rintro k b mk rfl
    refine ix_dp (i := 0) hv rfl fun u du => ?_
    cases dp_str du
    rw [rEqU_ss]
    have nk : k ≠ "days" := by
      simp only [List.mem_cons, List.not_mem_nil, or_false] at mk
      rcases mk with rfl | rfl <;> decide
    have lk : k.length ≤ 8 := kinds8 k (by
      simp only [List.mem_cons, List.not_mem_nil, or_false] at mk
      rcases mk with rfl | rfl <;> simp)
    refine ⟨_, rfl, ?_⟩
    rw [if_neg (by simpa using nk)]
    refine ⟨⟨_, rfl⟩, sl_dp hv fun y H2 s2 dy => ?_⟩
    refine join_dp (zs := [k]) (m := 8) dy (by intro x mx; rw [List.mem_singleton.mp mx]; exact lk) (by simp) (by decide) (by rw [e1]; decide) ?_
    refine ix_last2 (dpSame s2 hv) fun u du => ?_
    cases dp_bool du
    refine ⟨_, rfl, ?_⟩
    cases b with
    | true =>
      rw [if_pos rfl]
      exact q H2 s2
    | false =>
      rw [if_neg (by decide)]
      refine ⟨_, rfl, ?_, q H2 s2⟩
      show ("not " : Str).length + _ ≤ _
      rw [e4, one_join]
      exact size_le (by omega)
  cases gd with
  | days n h1 h2 =>
    refine ix_dp (i := 0) hv rfl fun u du => ?_
    cases dp_str du
    walk_at "rn"
    simp only [tJs, tFmt]
    walk_at "rn"
    refine ⟨by decide +kernel, ix_dp (i := 1) hv rfl fun u du => ?_⟩
    cases dp_int du
    walk_at "rn"
    have hq := q H (Same.refl H)
    have et : testS (.tuple [.str "days", .int n]) = Txt.join " " [("days" : Str), (toString n : Str)] := rfl
    rw [et] at gl hq
    rw [← days_text] at gl hq
    exact ⟨fmt_day h1 h2, Nat.le_trans gl (size_le (by decide)), hq⟩
  | status z b hz => exact three _ z b (by simp) (stat_len z hz) rfl
  | desk z b hz => exact three _ z b (by simp) (name_len (sh z hz)).2 rfl
  | answered b => exact two _ b (by simp) rfl
  | marked b => exact two _ b (by simp) rfl
theorem d__action_text (T : TX P K mg Z) : DefOk P w K mg base "_action_text" ["action"] 2 (spTxt K ActB actS) := by
  refine T.f__action_text.ok sc__action_text spTxt_len fun f cdv A outer s H vs Q E hr h => ?_
  obtain ⟨v, d, rfl, hv, gd, q⟩ := h
  refine ⟨_, (pss_cons (ps_if (pt_cmpR (kEq (K := K) hr.units) (pe_ix (kIx (K := K)) (pv 0) pe_int (fun _ _ => rfl)) pe_str (nomark _)) (pss_one (ps_ret (pe_ifExp (pt_val (pe_ix (kIx (K := K)) (pv 0) pe_int (fun _ _ => rfl))) pe_str pe_str))) pss_nil) (pss_one (ps_ret (kJoin (K := K) pe_str (pv 0))))), ?_⟩
  walk_at "rn"
  have e1 : (" " : Str).length = 1 := by decide +kernel
  obtain ⟨dsk, gd, sh⟩ := gd.ex
  have words : ∀ (k : Str) (zs : List Str), k ∈ ([("status" : Str), "desk", "reply", "stop"] : List Str) → (∀ z ∈ k :: zs, z.length ≤ 8) → zs.length ≤ 1 → d = .tuple ((k :: zs).map PyData.str) → actS d = Txt.join " " (k :: zs) → rIxU K v (.int 0) H fun x H1 => rEqU K x (V.str (Str.ofString "mark")) H1 fun x H' => ∃ k, x = V.bl k ∧ if k = true then rIxU K v (V.int 1) H' fun x H1 => ∃ c, x = V.bl c ∧ if c = true then Q (V.str (Str.ofString "mark")) H1 else Q (V.str (Str.ofString "unmark")) H1
      else (∃ a, Str.ofString " " = a) ∧ rJoin K (V.str (Str.ofString " ")) [v] H' Q := by
    rintro k zs mk lz l1 rfl ea
    refine ix_dp (i := 0) hv rfl fun u du => ?_
    cases dp_str du
    rw [rEqU_ss]
    have nk : k ≠ "mark" := by
      simp only [List.mem_cons, List.not_mem_nil, or_false] at mk
      rcases mk with rfl | rfl | rfl | rfl <;> decide
    refine ⟨_, rfl, ?_⟩
    rw [if_neg (by simpa using nk)]
    refine ⟨⟨_, rfl⟩, join_dp (m := 8) hv lz (by simp only [List.length_cons]; omega) (by decide) (by rw [e1]; decide) ?_⟩
    rw [← ea]
    exact q H (Same.refl H)
  cases gd with
  | status z h => exact words _ [z] (by simp) (by intro x mx; simp only [List.mem_cons, List.not_mem_nil, or_false] at mx; rcases mx with rfl | rfl; exact kinds8 _ (by simp); exact stat_len _ h) (by simp) rfl rfl
  | desk z h => exact words _ [z] (by simp) (by intro x mx; simp only [List.mem_cons, List.not_mem_nil, or_false] at mx; rcases mx with rfl | rfl; exact kinds8 _ (by simp); exact (name_len (sh _ h)).2) (by simp) rfl rfl
  | reply => exact words _ [] (by simp) (by intro x mx; rw [List.mem_singleton.mp mx]; exact kinds8 _ (by simp)) (by simp) rfl rfl
  | stop => exact words _ [] (by simp) (by intro x mx; rw [List.mem_singleton.mp mx]; exact kinds8 _ (by simp)) (by simp) rfl rfl
  | mark b =>
    refine ix_dp (i := 0) hv rfl fun u du => ?_
    cases dp_str du
    walk_at "rn"
    refine ix_dp (i := 1) hv rfl fun u du => ?_
    cases dp_bool du
    refine ⟨_, rfl, ?_⟩
    have hq := q H (Same.refl H)
    cases b with
    | true =>
      rw [if_pos rfl]
      rw [show actS (.tuple [.str "mark", .bool true]) = ("mark" : Str) by show Txt.join " " [("mark" : Str)] = _; rw [one_join]] at hq
      exact hq
    | false =>
      rw [if_neg (by decide)]
      rw [show actS (.tuple [.str "mark", .bool false]) = ("unmark" : Str) by show ("un" : Str) ++ Txt.join " " [("mark" : Str)] = _; rw [one_join]; decide +kernel] at hq
      exact hq
theorem d__rule_text (T : TX P K mg Z) : DefOk P w K mg base "_rule_text" ["rule"] 3 (spTxt K RuleB ruleS) := by
  refine T.f__rule_text.ok sc__rule_text spTxt_len fun f cdv A outer s H vs Q E hr h => ?_
  obtain ⟨v, d, rfl, hv, gd, q⟩ := h
  refine ⟨_, (pss_cons (ps_asg (pv 0) (kTup (K := K) (n := 3) rfl (pgs_cons (pg_name (i := 1) sc__rule_text.nd rfl (by first | exact Or.inl rfl | exact Or.inr rfl)) (pgs_cons (pg_name (i := 2) sc__rule_text.nd rfl (by first | exact Or.inl rfl | exact Or.inr rfl)) (pgs_cons (pg_name (i := 3) sc__rule_text.nd rfl (by first | exact Or.inl rfl | exact Or.inr rfl)) pgs_nil))))) (pss_cons (ps_set (i := 4) sc__rule_text.nd rfl (by first | exact Or.inl rfl | exact Or.inr rfl) (kJoin (K := K) pe_str (pe_lc (own := [("action", 5)]) rfl sc__rule_text.nd (kSeq (K := K) (pv 3)) (blkOk_by (N := ["rule", "event", "tests", "actions", "done", "action", "asked", "test"]) (sc := defScope s__rule_text) (own := [("action", 5)]) (by decide +kernel)) (fun _ _ _ _ _ => (pg_name (i := 5) sc__rule_text.nd rfl (by first | exact Or.inl rfl | exact Or.inr rfl))) (fun _ _ _ _ _ => pts_nil) (fun _ _ _ _ _ => (pe_callD (d__action_text T) hr rfl passL (pa_cons (pv 5) pa_nil)))))) (pss_cons (ps_if (pt_cmpR (kEq (K := K) hr.units) (pe_callB (kLen (K := K)) (by rfl) T.b_len PySem.boot_len (pa_cons (pv 2) pa_nil)) pe_int (nomark _)) (pss_one (ps_ret (pe_joined (PJ.cons pe_str (PJ.cons (pe_fmt (pv 1)) (PJ.cons pe_str (PJ.cons (pe_fmt (pv 4)) PJ.nil))))))) pss_nil) (pss_cons (ps_set (i := 6) sc__rule_text.nd rfl (by first | exact Or.inl rfl | exact Or.inr rfl) (kJoin (K := K) pe_str (pe_lc (own := [("test", 7)]) rfl sc__rule_text.nd (kSeq (K := K) (pv 2)) (blkOk_by (N := ["rule", "event", "tests", "actions", "done", "action", "asked", "test"]) (sc := defScope s__rule_text) (own := [("test", 7)]) (by decide +kernel)) (fun _ _ _ _ _ => (pg_name (i := 7) sc__rule_text.nd rfl (by first | exact Or.inl rfl | exact Or.inr rfl))) (fun _ _ _ _ _ => pts_nil) (fun _ _ _ _ _ => (pe_callD (d__test_text T) hr rfl passL (pa_cons (pv 7) pa_nil)))))) (pss_one (ps_ret (pe_joined (PJ.cons pe_str (PJ.cons (pe_fmt (pv 1)) (PJ.cons pe_str (PJ.cons (pe_fmt (pv 6)) (PJ.cons pe_str (PJ.cons (pe_fmt (pv 4)) PJ.nil))))))))))))), ?_⟩
  walk_at "rn"
  obtain ⟨ev, ts, as, rfl, he, lt, la, ht, ha⟩ := gd.ex
  have gl := gd.len
  obtain ⟨a, xs, rfl, sx, dx⟩ := dp_tup hv
  cases dx with | cons h1 dx =>
  cases dx with | cons h2 dx =>
  cases dx with | cons h3 dx =>
  cases dx
  cases dp_str h1
  refine ⟨a, rfl, _, sx, rfl, _, _, rfl, _, _, rfl, _, _, rfl, rfl, ⟨_, rfl⟩, ?_⟩
  have ec : (", " : Str).length = 2 := by decide +kernel
  have k1 : (Str.ofString "at ").length = 3 := by decide +kernel
  have k2 : (Str.ofString " if ").length = 4 := by decide +kernel
  have k3 : (Str.ofString " do ").length = 4 := by decide +kernel
  have k4 := ev_len ev he
  have sz : 100000 ≤ sizeLine := size_le (Nat.le_refl _)
  have j1 := join_le (s := ", ") (ys := ts.map testS) (m := 24) (k := 4) (fun y my => by obtain ⟨t, mt, rfl⟩ := List.mem_map.mp my; exact (ht t mt).len) (by rw [List.length_map]; omega)
  have j2 := join_le (s := ", ") (ys := as.map actS) (m := 24) (k := 4) (fun y my => by obtain ⟨t, mt, rfl⟩ := List.mem_map.mp my; exact (ha t mt).len) (by rw [List.length_map]; omega)
  rw [ec] at j1 j2
  refine lc_t ?_
  walk_at "rn"
  refine lcMapT 0 (fun d => .str (actS d)) h3 (by rw [sizeLine_eq]; omega) (fun _ _ => rfl) ?_ ?_
  · intro i x d H2 N hi s2 dd nt
    walk_at "rn"
    exact ⟨x, d, rfl, dd, ha d (List.mem_of_getElem? hi), fun H3 s3 => nt _ H3 s3 (.str _)⟩
  intro D H2 ys nD s2 eD dy
  have ey : ys = (as.map actS).map V.str := vals_strs (by rw [List.map_map]; exact dy)
  subst ey
  refine join_lst (m := 24) eD (fun y my => by obtain ⟨t, mt, rfl⟩ := List.mem_map.mp my; exact (ha t mt).len) (by rw [List.length_map]; omega) (by decide) (by rw [ec]; decide) ?_
  have h2' := dpSame s2 h2
  refine len_dp h2' ?_
  rw [rEqU_ii]
  refine ⟨_, rfl, ?_⟩
  have hq := q H2 s2
  by_cases c : ts = []
  · subst c
    rw [if_pos (by simp)]
    simp only [tJs, tFmt]
    walk_at "rn"
    rw [show ruleS (.tuple [.str ev, .tuple [], .tuple as]) = ("at " : Str) ++ ev ++ (" do " : Str) ++ Txt.join ", " (as.map actS) from rfl] at hq
    rw [Str.empty_append]
    simp only [app_len, k1, k3]
    exact ⟨by omega, by omega, by omega, by omega, by omega, by omega, hq⟩
  · rw [if_neg (by
      rw [decide_eq_true_eq]
      intro z
      exact c (List.length_eq_zero_iff.mp (by omega)))]
    refine ⟨⟨_, rfl⟩, lc_t ?_⟩
    walk_at "rn"
    refine lcMapT 0 (fun d => .str (testS d)) h2' (by rw [sizeLine_eq]; omega) (fun _ _ => rfl) ?_ ?_
    · intro i x d H3 N hi s3 dd nt
      walk_at "rn"
      exact ⟨x, d, rfl, dd, ht d (List.mem_of_getElem? hi), fun H4 s4 => nt _ H4 s4 (.str _)⟩
    intro D3 H3 ys nD3 s3 eD3 dy3
    have ey : ys = (ts.map testS).map V.str := vals_strs (by rw [List.map_map]; exact dy3)
    subst ey
    refine join_lst (m := 24) eD3 (fun y my => by obtain ⟨t, mt, rfl⟩ := List.mem_map.mp my; exact (ht t mt).len) (by rw [List.length_map]; omega) (by decide) (by rw [ec]; decide) ?_
    simp only [tJs, tFmt]
    walk_at "rn"
    have hq := q H3 (s2.trans s3)
    have te : ts.isEmpty = false := by cases ts with
      | nil => exact absurd rfl c
      | cons _ _ => rfl
    rw [show ruleS (.tuple [.str ev, .tuple ts, .tuple as]) = (if ts.isEmpty = true then ("at " : Str) ++ ev else ("at " : Str) ++ ev ++ (" if " : Str) ++ Txt.join ", " (ts.map testS)) ++ (" do " : Str) ++ Txt.join ", " (as.map actS) from rfl, te, if_neg (by decide)] at hq
    rw [Str.empty_append]
    simp only [app_len, k1, k2, k3]
    exact ⟨by omega, by omega, by omega, by omega, by omega, by omega, by omega, by omega, by omega, hq⟩
def bookTxtOk (dsk : List Str) (rs : List PyData) : Prop := (∀ z ∈ dsk, z.length ≤ 8) ∧ dsk.length ≤ 4 ∧ rs.length ≤ 100 ∧ ∀ r ∈ rs, RuleB r
def spBookS (K : PySem.W.Frag) (Z : Ad) : Sp := fun vs H Q _ => ∃ b dsk rs, vs = [b] ∧ BookIs K Z.Book H b dsk rs ∧ bookTxtOk dsk rs ∧ ∀ H', Same H H' → Q (.str (bookS dsk rs)) H'
theorem d_book_text (T : TX P K mg Z) : DefOk P w K mg base "book_text" ["book"] 5 (spBookS K Z) := by
  refine T.f_book_text.ok sc_book_text (by rintro _ _ _ _ ⟨_, _, _, rfl, _⟩; rfl) fun f cdv A outer s H vs Q E hr h => ?_
  obtain ⟨b, dsk, rs, rfl, bk, ⟨sh, d4, few, hr4⟩, q⟩ := h
  refine ⟨_, (pss_cons (ps_set (i := 1) sc_book_text.nd rfl (by first | exact Or.inl rfl | exact Or.inr rfl) (pe_lst (pa_cons (kJoin (K := K) pe_str (pe_methD0 (m_Book_desks T) hr (pv 0) passL)) pa_nil))) (pss_cons (ps_expr (kBm (K := K) PySem.F.plainAttrs_list PySem.F.slot_list_extend PySem.F.type_list_extend mt_extend (pv 1) (pa_cons (pe_lc (own := [("rule", 2)]) rfl sc_book_text.nd (kSeq (K := K) (pe_methD0 (m_Book_rules T) hr (pv 0) passL)) (blkOk_by (N := ["book", "lines", "rule"]) (sc := defScope s_book_text) (own := [("rule", 2)]) (by decide +kernel)) (fun _ _ _ _ _ => (pg_name (i := 2) sc_book_text.nd rfl (by first | exact Or.inl rfl | exact Or.inr rfl))) (fun _ _ _ _ _ => pts_nil) (fun _ _ _ _ _ => (pe_callD (d__rule_text T) hr rfl passL (pa_cons (pv 2) pa_nil)))) pa_nil))) (pss_one (ps_ret (kJoin (K := K) pe_str (pv 1)))))), ?_⟩
  walk_at "rn"
  obtain ⟨a, dx, vd, vr, rfl, ha, hd, hrr, g⟩ := id bk
  have e1 : (" " : Str).length = 1 := by decide +kernel
  have en : ("\n" : Str).length = 1 := by decide +kernel
  refine ⟨⟨_, rfl⟩, a, rfl, _, _, ha, rfl, _, dsk, rs, rfl, bk, fun v1 hv1 => ?_⟩
  refine join_dp (m := 8) hv1 sh (by omega) (by decide) (by rw [e1]; decide) ⟨by decide +kernel, ?_⟩
  walk_at "lay"
  rename_i l H1 s1 n1 l1
  refine ⟨.inl ⟨rfl, _, .inl (.inl l1)⟩, lc_t ?_⟩
  walk_at "rn"
  refine ⟨_, _, s1 _ _ ha, rfl, _, dsk, rs, rfl, bk.same s1, fun v2 hv2 => ?_⟩
  refine lcMapT 0 (fun d => .str (ruleS d)) hv2 (by rw [sizeLine_eq]; omega) (fun _ _ => rfl) ?_ ?_
  · intro i x d H2 N hi s2 dd nt
    walk_at "rn"
    exact ⟨x, d, rfl, dd, hr4 d (List.mem_of_getElem? hi), fun H3 s3 => nt _ H3 s3 (.str _)⟩
  intro D H2 ys nD s2 eD dy
  have ey : ys = (rs.map ruleS).map V.str := vals_strs (by rw [List.map_map]; exact dy)
  subst ey
  have el := s2 _ _ l1
  refine ⟨l, D, _, _, rfl, rfl, el, eD, by simp only [List.length_map, List.length_cons, List.length_nil]; rw [sizeLine_eq]; omega, ?_⟩
  refine ⟨⟨_, rfl⟩, ?_⟩
  have dl : (Txt.join " " dsk).length ≤ 40 := by
    have := join_le (s := " ") sh d4
    rw [e1] at this
    omega
  refine join_lst (zs := Txt.join " " dsk :: rs.map ruleS) (m := 300) upd_same (fun y my => ?_) (by simp only [List.length_cons, List.length_map]; omega) (by decide) (by rw [en]; decide) (q _ fun b o e => by
    rw [upd_ne (ne_of_none e n1)]
    exact s2 _ _ (s1 _ _ e))
  rcases List.mem_cons.mp my with rfl | my
  · omega
  · obtain ⟨r, mr, rfl⟩ := List.mem_map.mp my
    exact (hr4 r mr).len
end

set_option Elab.async false
set_option linter.all false
set_option maxRecDepth 100000
set_option maxHeartbeats 4000000
/-! A book held against another book, or a value of another kind. -/
section
variable {P : Program} {w : World} {K : PySem.W.Frag} {mg : Str → Option Value} {base : Heap} {Z : Ad}
theorem oc_book (T : TX P K mg Z) : OffC K Z.Book := ⟨off_first K Z.Book, fun t m => by
  simp only [sixT, List.mem_cons, List.not_mem_nil, or_false] at m
  rcases m with rfl | rfl | rfl | rfl | rfl | rfl
  · exact T.mf_Book_NoneType
  · exact T.mf_Book_bool
  · exact T.mf_Book_int
  · exact T.mf_Book_str
  · exact T.mf_Book_list
  · exact T.mf_Book_tuple, fun t m => by
  simp only [sixT, List.mem_cons, List.not_mem_nil, or_false] at m
  rcases m with rfl | rfl | rfl | rfl | rfl | rfl
  · exact T.kf_Book_NoneType
  · exact T.kf_Book_bool
  · exact T.kf_Book_int
  · exact T.kf_Book_str
  · exact T.kf_Book_list
  · exact T.kf_Book_tuple⟩
def spEqX (K : PySem.W.Frag) (C : Addr) : Sp := fun vs H Q _ => ∃ b dsk rs o, vs = [b, o] ∧ BookIs K C H b dsk rs ∧ OffV K o H ∧ Q (.bl false) H
theorem m_Book_eqX (T : TX P K mg Z) : MethOk P w K mg base Z.Book "__eq__" ["self", "other"] 2 (spEqX K Z.Book) := by
  refine T.mt_Book_eq.ok T.cl_Book sc_Book_eq (by rintro _ _ _ _ ⟨_, _, _, _, rfl, _⟩; rfl) fun f cdv A outer s H vs Q E hr h => ?_
  obtain ⟨b, dsk, rs, o, rfl, ⟨a, dx, vd, vr, rfl, ha, hd, hrr, g⟩, ho, q⟩ := h
  refine ⟨_, (pss_one (ps_ret (pe_and (pe_callB (kIsi (K := K)) (by rfl) T.b_isinstance (by decide +kernel) (pa_cons (pv 1) (pa_cons (pe_globR rfl T.c_Book) pa_nil))) (pe_and (pe_cmpR (kEq (K := K) hr.units) (kFld (K := K) (pv 0) rfl) (kFld (K := K) (pv 1) rfl) (nomark _)) (pe_one (pe_cmpR (kEq (K := K) hr.units) (kFld (K := K) (pv 0) rfl) (kFld (K := K) (pv 1) rfl) (nomark _))))))), ?_⟩
  walk_at "rn"
  obtain ⟨t, mt, ty⟩ := off_ty ho
  refine ⟨_, _, _, _, _, rfl, .own _, ty, (oc_book T).k t mt, ?_⟩
  refine ⟨_, rfl, ?_⟩
  rw [if_neg (by decide)]
  exact q
end

set_option Elab.async false
set_option linter.all false
set_option maxRecDepth 100000
set_option maxHeartbeats 4000000
/-! Two books that are equal, and what no book equals. -/
section
variable {P : Program} {w : World} {K : PySem.W.Frag} {mg : Str → Option Value} {base : Heap} {Z : Ad}
/-- a row that another may be made of by one step -/
def NearR (most : Nat) (ds es : List PyData) : Prop := (∀ e ∈ es, e ∈ ds) ∧ (ds ≠ [] → es ≠ []) ∧ (ds.length ≤ most → es.length ≤ most)
theorem NearR.refl {most : Nat} {ds : List PyData} : NearR most ds ds := ⟨fun _ m => m, fun h => h, fun h => h⟩
theorem nearR_swap {most k : Nat} {ds : List PyData} (h0 : k < ds.length) (h1 : k + 1 < ds.length) : NearR most ds (ds.take k ++ [ds[k + 1], ds[k]] ++ ds.drop (k + 2)) := by
  refine ⟨fun e m => ?_, fun _ c => ?_, fun l => ?_⟩
  · rcases List.mem_append.mp m with m | m
    · rcases List.mem_append.mp m with m | m
      · exact List.mem_of_mem_take m
      · rcases List.mem_cons.mp m with rfl | m
        · exact List.getElem_mem _
        · rw [List.mem_singleton.mp m]
          exact List.getElem_mem _
    · exact List.mem_of_mem_drop m
  · simp at c
  · simp
    omega
theorem nearR_out {most k : Nat} {ds : List PyData} (h0 : k < ds.length) (h1 : 1 < ds.length) : NearR most ds (ds.take k ++ ds.drop (k + 1)) := by
  refine ⟨fun e m => ?_, fun _ c => ?_, fun l => ?_⟩
  · rcases List.mem_append.mp m with m | m
    · exact List.mem_of_mem_take m
    · exact List.mem_of_mem_drop m
  · have c := congrArg List.length c
    rw [List.length_append, List.length_take, List.length_drop] at c
    simp only [List.length_nil] at c
    omega
  · rw [List.length_append, List.length_take, List.length_drop]
    omega
theorem nearR_twice {most k : Nat} {ds : List PyData} (h0 : k < ds.length) (h1 : ds.length < most) : NearR most ds (ds.take (k + 1) ++ ds.drop k) := by
  refine ⟨fun e m => ?_, fun _ c => ?_, fun l => ?_⟩
  · rcases List.mem_append.mp m with m | m
    · exact List.mem_of_mem_take m
    · exact List.mem_of_mem_drop m
  · have c := congrArg List.length c
    simp at c
    omega
  · simp
    omega
theorem NLs.gr07 {H H' : Hp} {p : Addr} {n : Nat} (pt : PotAt H p n) (g : Gr p H H') : NLs H H' := fun b o e nl => g.keep b o (fun m => by
  obtain ⟨x, y, z, e2, _⟩ := pt
  rw [m, e2] at e
  cases e
  exact nl) e
theorem ri_ii {H : Hp} {Q : VK} {i j : Int} (q : Q (.int (i + j)) H) : rAddU K (.int i) (.int j) H Q := by rw [rAddU_ii]; exact q
theorem if_skip {a : Prop} [Decidable a] {S N : Prop} (hN : N) (h : a → N → S) : if decide a = true then S else N := by
  by_cases c : a
  · rw [if_pos (decide_eq_true c)]
    exact h c hN
  · rw [if_neg (by simpa using c)]
    exact hN
def spNearRow (K : PySem.W.Frag) : Sp := fun vs H Q _ => ∃ (p : Addr) (n most j : Nat) (vr : V) (ds : List PyData), vs = [.ref p, vr, .int most] ∧ PotAt H p n ∧ n + 2 < 2 ^ 60 ∧ Dp K H vr (.tuple ds) ∧ tpD j (.tuple ds) ∧ ds.length ≤ 8 ∧ most ≤ 8 ∧ ∀ v es H', NearR most ds es → Dp K H' v (.tuple es) → Gr p H H' → PotAt H' p (n + 2) → Q v H'
theorem d__law_near_row (T : TX P K mg Z) : DefOk P w K mg base "_law_near_row" ["pot", "row", "most"] 3 (spNearRow K) := by
  refine T.f__law_near_row.ok sc__law_near_row (by rintro _ _ _ _ ⟨_, _, _, _, _, _, rfl, _⟩; rfl) fun f cdv A outer s H vs Q E hr h => ?_
  obtain ⟨p, n, most, j, vr, ds, rfl, hp, hn, hd, tp, l8, m8, q⟩ := h
  refine ⟨_, (pss_cons (ps_par (i := 3) (j := 4) rfl sc__law_near_row.nd rfl rfl (by decide) rfl rfl (pa_cons (pe_callD (d__law_dip T) hr rfl passL (pa_cons (pv 0) (pa_cons pe_int pa_nil))) (pa_cons (pe_callD (d__law_dip T) hr rfl passL (pa_cons (pv 0) (pa_cons (pe_callB (call_max2 rfl) (by rfl) T.b_max (by decide +kernel) (pa_cons pe_int (pa_cons (pe_callB (kLen (K := K)) (by rfl) T.b_len PySem.boot_len (pa_cons (pv 1) pa_nil)) pa_nil))) pa_nil))) pa_nil)) (by rfl)) (pss_cons (ps_if (PW.pt (pw_and (pt_cmpR (kEq (K := K) hr.units) (pv 3) pe_int (nomark _)) (pw_and1 (pt_cmpR op_lt (pe_op (kAdd (K := K)) (pv 4) pe_int) (pe_callB (kLen (K := K)) (by rfl) T.b_len PySem.boot_len (pa_cons (pv 1) pa_nil)) (nomark _))))) (pss_one (ps_ret (pe_op (kAdd (K := K)) (pe_op (kAdd (K := K)) (pe_slice (kSl (K := K)) (pv 1) po_none (po_some (pv 4))) (pe_tup (pa_cons (pe_ix (kIx (K := K)) (pv 1) (pe_op (kAdd (K := K)) (pv 4) pe_int) (fun _ _ => rfl)) (pa_cons (pe_ix (kIx (K := K)) (pv 1) (pv 4) (fun _ _ => rfl)) pa_nil)))) (pe_slice (kSl (K := K)) (pv 1) (po_some (pe_op (kAdd (K := K)) (pv 4) pe_int)) po_none)))) pss_nil) (pss_cons (ps_if (PW.pt (pw_and (pt_cmpR (kEq (K := K) hr.units) (pv 3) pe_int (nomark _)) (pw_and (pt_cmpR op_lt (pv 4) (pe_callB (kLen (K := K)) (by rfl) T.b_len PySem.boot_len (pa_cons (pv 1) pa_nil)) (nomark _)) (pw_and1 (pt_cmpR op_gt (pe_callB (kLen (K := K)) (by rfl) T.b_len PySem.boot_len (pa_cons (pv 1) pa_nil)) pe_int (nomark _)))))) (pss_one (ps_ret (pe_op (kAdd (K := K)) (pe_slice (kSl (K := K)) (pv 1) po_none (po_some (pv 4))) (pe_slice (kSl (K := K)) (pv 1) (po_some (pe_op (kAdd (K := K)) (pv 4) pe_int)) po_none)))) pss_nil) (pss_cons (ps_if (PW.pt (pw_and (pt_cmpR (kEq (K := K) hr.units) (pv 3) pe_int (nomark _)) (pw_and (pt_cmpR op_lt (pv 4) (pe_callB (kLen (K := K)) (by rfl) T.b_len PySem.boot_len (pa_cons (pv 1) pa_nil)) (nomark _)) (pw_and1 (pt_cmpR op_lt (pe_callB (kLen (K := K)) (by rfl) T.b_len PySem.boot_len (pa_cons (pv 1) pa_nil)) (pv 2) (nomark _)))))) (pss_one (ps_ret (pe_op (kAdd (K := K)) (pe_slice (kSl (K := K)) (pv 1) po_none (po_some (pe_op (kAdd (K := K)) (pv 4) pe_int))) (pe_slice (kSl (K := K)) (pv 1) (po_some (pv 4)) po_none)))) pss_nil) (pss_one (ps_ret (pv 1))))))), ?_⟩
  walk_at "rn"
  refine ⟨p, _, n, rfl, hp, by omega, by decide, by decide, fun r H1 r0 r1 g1 p1 => ?_⟩
  walk_at "rn"
  have k1 := NLs.gr07 hp g1
  refine len_dp (dp_nls k1 j tp hd) ?_
  walk_at "rn"
  refine ⟨p, _, n + 1, rfl, p1, by omega, by split <;> omega, by split <;> omega, fun z H2 z0 z1 g2 p2 => ?_⟩
  obtain ⟨k, rfl⟩ := Int.eq_ofNat_of_zero_le z0
  have d2 : Dp K H2 vr (.tuple ds) := dp_nls (k1.trans (NLs.gr07 p1 g2)) j tp hd
  have g02 := g1.trans g2
  refine if_skip ?N fun c0 N => ?_
  case N =>
    refine if_skip ?N fun c0 N => ?_
    case N =>
      refine if_skip ?N fun c0 N => ?_
      case N => exact q _ _ H2 .refl d2 g02 p2
      refine len_dp d2 ⟨_, rfl, _, rfl, if_skip N fun c1 _ => len_dp d2 ⟨_, rfl, if_skip N fun c2 _ => ?_⟩⟩
      have hk0 : k < ds.length := by omega
      refine ri_ii ⟨_, rfl, ?_⟩
      rw [show (k : Int) + 1 = ((k + 1 : Nat) : Int) by omega]
      refine sl_dp d2 fun v1 H3 s3 h3 => ⟨_, rfl, sl_dp (dpSame s3 d2) fun v2 H4 s4 h4 => ?_⟩
      rw [cutD_to (by omega)] at h3
      rw [cutD_from (by omega)] at h4
      exact (cat_dp (dpSame s4 h3) h4 (by simp; omega) (by simp; omega) fun v3 H5 s5 h5 => q _ _ H5 (nearR_twice hk0 (by omega)) h5 (g02.trans (Gr.of ((s3.trans s4).trans s5))) (p2.same ((s3.trans s4).trans s5)))
    refine len_dp d2 ⟨_, rfl, _, rfl, if_skip N fun c1 _ => len_dp d2 ⟨_, rfl, if_skip N fun c2 _ => ?_⟩⟩
    have hk0 : k < ds.length := by omega
    refine ⟨_, rfl, sl_dp d2 fun v1 H3 s3 h3 => ri_ii ⟨_, rfl, ?_⟩⟩
    rw [show (k : Int) + 1 = ((k + 1 : Nat) : Int) by omega]
    refine sl_dp (dpSame s3 d2) fun v2 H4 s4 h4 => ?_
    rw [cutD_to (by omega)] at h3
    rw [cutD_from (by omega)] at h4
    exact (cat_dp (dpSame s4 h3) h4 (by simp; omega) (by simp; omega) fun v3 H5 s5 h5 => q _ _ H5 (nearR_out hk0 (by omega)) h5 (g02.trans (Gr.of ((s3.trans s4).trans s5))) (p2.same ((s3.trans s4).trans s5)))
  refine ri_ii (len_dp d2 ⟨_, rfl, _, rfl, if_skip N fun c1 _ => ⟨_, rfl, ?_⟩⟩)
  have hk0 : k < ds.length := by omega
  have hk1 : k + 1 < ds.length := by omega
  refine sl_dp d2 fun v1 H3 s3 h3 => ri_ii ?_
  rw [cutD_to (by omega)] at h3
  rw [show (k : Int) + 1 = ((k + 1 : Nat) : Int) by omega]
  refine ix_dp (dpSame s3 d2) (List.getElem?_eq_getElem hk1) fun w1 hw1 => ix_dp (dpSame s3 d2) (List.getElem?_eq_getElem hk0) fun w0 hw0 => ⟨by decide +kernel, ?_⟩
  walk_at "lay"
  rename_i t H4 s4 n4 e4
  refine (cat_dp (dpSame s4 h3) (.tup (.inl (.inl e4)) (.cons (dpSame s4 hw1) (.cons (dpSame s4 hw0) .nil))) (by simp; omega) (by simp) fun v2 H5 s5 h5 => ri_ii ⟨_, rfl, ?_⟩)
  rw [show (k : Int) + 2 = ((k + 2 : Nat) : Int) by omega]
  have s25 := (s3.trans s4).trans s5
  refine sl_dp (dpSame s25 d2) fun v3 H6 s6 h6 => ?_
  rw [cutD_from (by omega)] at h6
  exact (cat_dp (dpSame s6 h5) h6 (by simp; omega) (by simp; omega) fun v4 H7 s7 h7 => q _ _ H7 (nearR_swap hk0 hk1) h7 (g02.trans (Gr.of ((s25.trans s6).trans s7))) (p2.same ((s25.trans s6).trans s7)))
def spNearTest (K : PySem.W.Frag) : Sp := fun vs H Q _ => ∃ (p a : Addr) (n : Nat) (dsk : List Str) (vt : V) (d : PyData), vs = [.ref p, .ref a, vt] ∧ PotAt H p n ∧ n + 2 < 2 ^ 60 ∧ SqT K H a (dsk.map V.str) ∧ 1 ≤ dsk.length ∧ dsk.length ≤ 4 ∧ Dp K H vt d ∧ TestIs dsk d ∧ ∀ v e H', TestIs dsk e → Dp K H' v e → Gr p H H' → PotAt H' p (n + 2) → Q v H'
theorem d__law_near_test (T : TX P K mg Z) : DefOk P w K mg base "_law_near_test" ["pot", "desks", "test"] 3 (spNearTest K) := by
  refine T.f__law_near_test.ok sc__law_near_test (by rintro _ _ _ _ ⟨_, _, _, _, _, _, rfl, _⟩; rfl) fun f cdv A outer s H vs Q E hr h => ?_
  obtain ⟨p, a, n, dsk, vt, d, rfl, hp, hn, ha, l1, l4, hd, ht, q⟩ := h
  refine ⟨_, (pss_cons (ps_set (i := 3) sc__law_near_test.nd rfl (by first | exact Or.inl rfl | exact Or.inr rfl) (pe_callD (d__law_dip T) hr rfl passL (pa_cons (pv 0) (pa_cons pe_int pa_nil)))) (pss_cons (ps_if (pt_cmpR (kEq (K := K) hr.units) (pe_ix (kIx (K := K)) (pv 2) pe_int (fun _ _ => rfl)) pe_str (nomark _)) (pss_one (ps_ret (pe_ifExp (pt_cmpR op_gt (pe_ix (kIx (K := K)) (pv 2) pe_int (fun _ _ => rfl)) pe_int (nomark _)) (pe_tup (pa_cons pe_str (pa_cons (pe_op op_sub pe_int (pe_ix (kIx (K := K)) (pv 2) pe_int (fun _ _ => rfl))) pa_nil))) (pe_tup (pa_cons pe_str (pa_cons (pe_op (kAdd (K := K)) (pe_ix (kIx (K := K)) (pv 2) pe_int (fun _ _ => rfl)) pe_int) pa_nil)))))) pss_nil) (pss_cons (ps_if (PW.pt (pw_and (pt_cmpR (kEq (K := K) hr.units) (pv 3) pe_int (nomark _)) (pw_and1 (pt_cmpR (kEq (K := K) hr.units) (pe_ix (kIx (K := K)) (pv 2) pe_int (fun _ _ => rfl)) pe_str (nomark _))))) (pss_one (ps_ret (pe_tup (pa_cons pe_str (pa_cons (pe_ix (kIx (K := K)) (pe_lst (pa_cons pe_str (pa_cons pe_str (pa_cons pe_str (pa_cons pe_str pa_nil))))) (pe_callD (d__law_dip T) hr rfl passL (pa_cons (pv 0) (pa_cons pe_int pa_nil))) (fun _ _ => rfl)) (pa_cons (pe_ix (kIx (K := K)) (pv 2) pe_int (fun _ _ => rfl)) pa_nil)))))) pss_nil) (pss_cons (ps_if (PW.pt (pw_and (pt_cmpR (kEq (K := K) hr.units) (pv 3) pe_int (nomark _)) (pw_and1 (pt_cmpR (kEq (K := K) hr.units) (pe_ix (kIx (K := K)) (pv 2) pe_int (fun _ _ => rfl)) pe_str (nomark _))))) (pss_one (ps_ret (pe_tup (pa_cons pe_str (pa_cons (pe_ix (kIx (K := K)) (pv 1) (pe_callD (d__law_dip T) hr rfl passL (pa_cons (pv 0) (pa_cons (pe_callB (kLen (K := K)) (by rfl) T.b_len PySem.boot_len (pa_cons (pv 1) pa_nil)) pa_nil))) (fun _ _ => rfl)) (pa_cons (pe_ix (kIx (K := K)) (pv 2) pe_int (fun _ _ => rfl)) pa_nil)))))) pss_nil) (pss_one (ps_ret (pe_op (kAdd (K := K)) (pe_slice (kSl (K := K)) (pv 2) po_none (po_some (pe_un un_neg pe_int))) (pe_tup (pa_cons (pe_not (pe_ix (kIx (K := K)) (pv 2) (pe_un un_neg pe_int) (fun _ _ => rfl))) pa_nil))))))))), ?_⟩
  walk_at "rn"
  refine ⟨p, _, n, rfl, hp, by omega, by decide, by decide, fun r H1 r0 r1 g1 p1 => ?_⟩
  have k1 := NLs.gr07 hp g1
  have d1 : Dp K H1 vt d := dp_nls k1 1 ht.tp hd
  have a1 := sqT_gr ha hp g1
  walk_at "rn"
  have s0 : ∀ {w' : Str} {rest : List PyData} {y : Str} {R : VK}, d = .tuple (.str w' :: rest) → R (.bl (decide (w' = y))) H1 → rIxU K vt (.int 0) H1 fun x H2 => rEqU K x (.str y) H2 R := fun {w' rest y R} e r => by
    refine ix_dp (i := 0) (e ▸ d1) rfl fun u du => ?_
    cases dp_str du
    rw [rEqU_ss]
    exact r
  have out : ∀ {t : Addr} {vs : List V} {es : List PyData} {H2 : Hp}, Same H1 H2 → DpAll K H2 vs es → H2 t = none → TestIs dsk (.tuple es) → Q (.ref t) (upd H2 t (.tup vs)) := fun {t vs es H2} s da nt ht' =>
    q _ _ _ ht' (.tup (.inl (.inl upd_same)) (dpsSame (Same.put (Same.refl _) nt) da)) (g1.trans (Gr.of (s.trans (Same.put (Same.refl _) nt)))) ((p1.same (s.trans (Same.put (Same.refl _) nt))).mono (by omega))
  have flip : ∀ {ini : List PyData} {b : Bool}, d = .tuple (ini ++ [.bool b]) → cutD (ini ++ [.bool b]) none (some (-1)) = ini → ini.length ≤ 10 → TestIs dsk (.tuple (ini ++ [.bool !b])) → rSlU K vt none (some (-1)) H1 fun x H2 => rIxU K vt (V.int (-1)) H2 fun x_1 H3 => ∃ c, x_1 = V.bl c ∧ 1 ≤ sizeLine ∧ ∀ t, H3 t = none → rAddU K x (V.ref t) (upd H3 t (HO.tup [V.bl !c])) Q := fun {ini b} e hc hl ht' => by
    subst e
    refine sl_dp d1 fun v1 H2 s2 h2 => ix_lastD (l := .bool b) (dpSame s2 d1) (by simp) fun u du => ?_
    rw [hc] at h2
    cases dp_bool du
    refine ⟨_, rfl, by decide +kernel, ?_⟩
    walk_at "lay"
    rename_i t H3 s3 n3 e3
    exact cat_dp (dpSame s3 h2) (.tup (.inl (.inl e3)) (.cons (.bl _) .nil)) (by omega) (by simp) fun v2 H4 s4 h4 => q _ _ H4 ht' h4 (g1.trans (Gr.of ((s2.trans s3).trans s4))) ((p1.same ((s2.trans s3).trans s4)).mono (by omega))
  cases ht with
  | days m m0 m1 =>
    refine s0 rfl ⟨_, rfl, ?_⟩
    rw [if_pos (by decide)]
    refine ix_dp (i := 1) d1 rfl fun u du => ?_
    cases dp_int du
    refine ⟨_, rfl, ?_⟩
    by_cases c : 15 < m
    · rw [if_pos (decide_eq_true c)]
      refine ix_dp (i := 1) d1 rfl fun u du => ?_
      cases dp_int du
      exact ⟨_, rfl, by decide +kernel, fun t nt => out (Same.refl H1) (.cons (.str _) (.cons (.int _) .nil)) nt (.days _ (by omega) (by omega))⟩
    · rw [if_neg (by simpa using c)]
      refine ix_dp (i := 1) d1 rfl fun u du => ?_
      cases dp_int du
      exact ri_ii ⟨by decide +kernel, fun t nt => out (Same.refl H1) (.cons (.str _) (.cons (.int _) .nil)) nt (.days _ (by omega) (by omega))⟩
  | status z b hz =>
    refine s0 rfl ⟨_, rfl, ?_⟩
    rw [if_neg (by decide)]
    refine if_skip ?N fun c N => ?_
    case N =>
      refine if_skip ?N fun c N => ?_
      case N => exact flip (ini := [.str "status", .str z]) rfl rfl (by simp) (.status z _ hz)
      refine s0 rfl ⟨_, rfl, ?_⟩
      rw [if_neg (by decide)]
      exact N
    refine s0 rfl ⟨_, rfl, ?_⟩
    rw [if_pos (by decide)]
    refine ⟨by decide +kernel, ?_⟩
    walk_at "lay"
    rename_i l H2 s2 n2 e2
    refine ⟨p, _, _, rfl, p1.same s2, by omega, by decide, by decide, fun y H3 y0 y1 g3 p3 => ?_⟩
    have lp : l ≠ p := fun z => p1.ne (z ▸ n2)
    refine ix_pick (zs := statusesS) (.inl (.inl (g3.keep l _ lp e2))) y0 y1 fun z' hz' => ?_
    have g23 := (Gr.of (p := p) s2).trans g3
    refine ix_dp (i := 2) (dp_nls (NLs.gr07 p1 g23) 1 (TestIs.status z b hz : TestIs dsk _).tp d1) rfl fun u du => ⟨by decide +kernel, ?_⟩
    walk_at "lay"
    rename_i t H4 s4 n4 e4
    exact q _ _ H4 (.status z' b hz') (.tup (.inl (.inl e4)) (.cons (.str _) (.cons (.str _) (.cons (dpSame s4 du) .nil)))) ((g1.trans g23).trans (Gr.of s4)) ((p3.same s4).mono (by omega))
  | desk z b hz =>
    refine s0 rfl ⟨_, rfl, ?_⟩
    rw [if_neg (by decide)]
    refine if_skip ?N fun c N => ?_
    case N =>
      refine if_skip ?N fun c N => ?_
      case N => exact flip (ini := [.str "desk", .str z]) rfl rfl (by simp) (.desk z _ hz)
      refine s0 rfl ⟨_, rfl, ?_⟩
      rw [if_pos (by decide)]
      refine len_t a1 ?_
      rw [List.length_map]
      refine ⟨p, _, _, rfl, p1, by omega, by omega, by omega, fun y H3 y0 y1 g3 p3 => ?_⟩
      refine ix_pickT (sqT_gr a1 p1 g3) y0 y1 fun z' hz' => ?_
      refine ix_dp (i := 2) (dp_nls (NLs.gr07 p1 g3) 1 (TestIs.desk z b hz : TestIs dsk _).tp d1) rfl fun u du => ⟨by decide +kernel, ?_⟩
      walk_at "lay"
      rename_i t H4 s4 n4 e4
      exact q _ _ H4 (.desk z' b hz') (.tup (.inl (.inl e4)) (.cons (.str _) (.cons (.str _) (.cons (dpSame s4 du) .nil)))) ((g1.trans g3).trans (Gr.of s4)) ((p3.same s4).mono (by omega))
    refine s0 rfl ⟨_, rfl, ?_⟩
    rw [if_neg (by decide)]
    exact N
  | answered b =>
    refine s0 rfl ⟨_, rfl, ?_⟩
    rw [if_neg (by decide)]
    refine if_skip ?N fun c N => ?_
    case N =>
      refine if_skip ?N fun c N => ?_
      case N => exact flip (ini := [.str "answered"]) rfl rfl (by simp) (.answered _)
      refine s0 rfl ⟨_, rfl, ?_⟩
      rw [if_neg (by decide)]
      exact N
    refine s0 rfl ⟨_, rfl, ?_⟩
    rw [if_neg (by decide)]
    exact N
  | marked b =>
    refine s0 rfl ⟨_, rfl, ?_⟩
    rw [if_neg (by decide)]
    refine if_skip ?N fun c N => ?_
    case N =>
      refine if_skip ?N fun c N => ?_
      case N => exact flip (ini := [.str "marked"]) rfl rfl (by simp) (.marked _)
      refine s0 rfl ⟨_, rfl, ?_⟩
      rw [if_neg (by decide)]
      exact N
    refine s0 rfl ⟨_, rfl, ?_⟩
    rw [if_neg (by decide)]
    exact N
theorem rule_of7 {dsk : List Str} {d : PyData} (h : isRuleD dsk d = true) : ∃ ev ts as, d = .tuple [.str ev, .tuple ts, .tuple as] ∧ ev ∈ eventsS ∧ ts.length ≤ 4 ∧ 1 ≤ as.length ∧ as.length ≤ 4 ∧ (∀ t ∈ ts, TestIs dsk t) ∧ ∀ a ∈ as, ActIs dsk a := by
  unfold isRuleD at h
  split at h
  · rename_i ev ts as
    simp only [Bool.and_eq_true, decide_eq_true_eq, List.all_eq_true] at h
    obtain ⟨⟨⟨⟨⟨h1, h2⟩, ht⟩, h3⟩, h4⟩, ha⟩ := h
    obtain ⟨z, rfl, hz⟩ := word_of h1
    exact ⟨z, ts, as, rfl, hz, h2, h3, h4, fun t m => test_of (ht t m), fun a m => act_of (ha a m)⟩
  · cases h
theorem rule_mk7 {dsk : List Str} {ev : Str} {ts as : List PyData} (hz : ev ∈ eventsS) (h2 : ts.length ≤ 4) (h3 : 1 ≤ as.length) (h4 : as.length ≤ 4) (ht : ∀ t ∈ ts, TestIs dsk t) (ha : ∀ a ∈ as, ActIs dsk a) : isRuleD dsk (.tuple [.str ev, .tuple ts, .tuple as]) = true := by
  show (isWordD eventsS (.str ev) && decide (ts.length ≤ 4) && ts.all (hasForm testForms dsk) && decide (1 ≤ as.length) && decide (as.length ≤ 4) && as.all (hasForm actionForms dsk)) = true
  simp only [Bool.and_eq_true, decide_eq_true_eq, List.all_eq_true]
  exact ⟨⟨⟨⟨⟨word_mem hz, h2⟩, fun t m => test_mk (ht t m)⟩, h3⟩, h4⟩, fun a m => act_mk (ha a m)⟩
theorem ne_nil_way {c : Prop} [Decidable c] {H1 : Hp} {v : V} {S REST : Hp → Prop} {ts : List PyData} {m : Nat} (hd : Dp K H1 v (.tuple ts)) (sh : layD m (.tuple ts)) (hm : m ≤ 64) (rest : ∀ H', Same H1 H' → REST H') (main : c → ts ≠ [] → ∀ H', Same H1 H' → S H') :
    if decide c = true then (0 ≤ sizeLine ∧ ∀ p, H1 p = none → rNeU K v (.ref p) (upd H1 p (.tup [])) fun x H' => ∃ k, x = .bl k ∧ if k = true then S H' else REST H') else REST H1 := by
  refine if_skip (rest _ (Same.refl H1)) fun hc _ => ⟨by decide +kernel, ?_⟩
  walk_at "lay"
  rename_i t H2 s2 n2 e2
  obtain ⟨av, xv, rfl, _, _⟩ := dp_tup hd
  rw [rNeU_r]
  refine ⟨_, _, dpSame s2 hd, .tup (ds := []) (.inl (.inl e2)) .nil, sh.shaped hm, rfl, _, rfl, ?_⟩
  cases ts with
  | nil => exact rest _ s2
  | cons x xs => exact main hc (by simp) _ s2
theorem mem_ins {α : Type} {l : List α} {k : Nat} {x e : α} (m : e ∈ l.take k ++ [x] ++ l.drop (k + 1)) : e ∈ l ∨ e = x := by
  rcases List.mem_append.mp m with m | m
  · rcases List.mem_append.mp m with m | m
    · exact .inl (List.mem_of_mem_take m)
    · exact .inr (List.mem_singleton.mp m)
  · exact .inl (List.mem_of_mem_drop m)
theorem len_ins {α : Type} {l : List α} {k : Nat} {x : α} (h : k < l.length) : (l.take k ++ [x] ++ l.drop (k + 1)).length = l.length := by
  rw [List.length_append, List.length_append, List.length_take, List.length_drop, List.length_singleton]
  omega
def spNearRule (K : PySem.W.Frag) : Sp := fun vs H Q _ => ∃ (p a : Addr) (n : Nat) (dsk : List Str) (vt : V) (d : PyData), vs = [.ref p, .ref a, vt] ∧ PotAt H p n ∧ n + 6 < 2 ^ 60 ∧ SqT K H a (dsk.map V.str) ∧ 1 ≤ dsk.length ∧ dsk.length ≤ 4 ∧ lowOk dsk ∧ Dp K H vt d ∧ isRuleD dsk d = true ∧ ∀ v e H', isRuleD dsk e = true → Dp K H' v e → Gr p H H' → PotAt H' p (n + 6) → Q v H'
theorem d__law_near_rule (T : TX P K mg Z) : DefOk P w K mg base "_law_near_rule" ["pot", "desks", "rule"] 4 (spNearRule K) := by
  refine T.f__law_near_rule.ok sc__law_near_rule (by rintro _ _ _ _ ⟨_, _, _, _, _, _, rfl, _⟩; rfl) fun f cdv A outer s H vs Q E hr h => ?_
  obtain ⟨p, a, n, dsk, vt, d, rfl, hp, hn, ha, l1, l4, lo, hd, ht, q⟩ := h
  have lay := rule_lay lo ht
  obtain ⟨ev, ts, as, rfl, hz, h2, h3, h4, ht, has⟩ := rule_of7 ht
  refine ⟨_, (pss_cons (ps_asg (pv 2) (kTup (K := K) (n := 3) rfl (pgs_cons (pg_name (i := 3) sc__law_near_rule.nd rfl (by first | exact Or.inl rfl | exact Or.inr rfl)) (pgs_cons (pg_name (i := 4) sc__law_near_rule.nd rfl (by first | exact Or.inl rfl | exact Or.inr rfl)) (pgs_cons (pg_name (i := 5) sc__law_near_rule.nd rfl (by first | exact Or.inl rfl | exact Or.inr rfl)) pgs_nil))))) (pss_cons (ps_set (i := 6) sc__law_near_rule.nd rfl (by first | exact Or.inl rfl | exact Or.inr rfl) (pe_callD (d__law_dip T) hr rfl passL (pa_cons (pv 0) (pa_cons pe_int pa_nil)))) (pss_cons (ps_if (pt_cmpR (kEq (K := K) hr.units) (pv 6) pe_int (nomark _)) (pss_one (ps_ret (pe_tup (pa_cons (pe_ix (kIx (K := K)) (pe_lst (pa_cons pe_str (pa_cons pe_str (pa_cons pe_str (pa_cons pe_str (pa_cons pe_str (pa_cons pe_str pa_nil))))))) (pe_callD (d__law_dip T) hr rfl passL (pa_cons (pv 0) (pa_cons pe_int pa_nil))) (fun _ _ => rfl)) (pa_cons (pv 4) (pa_cons (pv 5) pa_nil)))))) pss_nil) (pss_cons (ps_if (pt_cmpR (kEq (K := K) hr.units) (pv 6) pe_int (nomark _)) (pss_one (ps_ret (pe_tup (pa_cons (pv 3) (pa_cons (pe_callD (d__law_near_row T) hr rfl passL (pa_cons (pv 0) (pa_cons (pv 4) (pa_cons pe_int pa_nil)))) (pa_cons (pv 5) pa_nil)))))) pss_nil) (pss_cons (ps_if (pt_cmpR (kEq (K := K) hr.units) (pv 6) pe_int (nomark _)) (pss_one (ps_ret (pe_tup (pa_cons (pv 3) (pa_cons (pv 4) (pa_cons (pe_callD (d__law_near_row T) hr rfl passL (pa_cons (pv 0) (pa_cons (pv 5) (pa_cons pe_int pa_nil)))) pa_nil)))))) pss_nil) (pss_cons (ps_if (PW.pt (pw_and (pt_cmpR (kEq (K := K) hr.units) (pv 6) pe_int (nomark _)) (pw_and1 (pt_cmpR (kNe (K := K) hr.units) (pv 4) (pe_tup pa_nil) (nomark _))))) (pss_cons (ps_set (i := 7) sc__law_near_rule.nd rfl (by first | exact Or.inl rfl | exact Or.inr rfl) (pe_callD (d__law_dip T) hr rfl passL (pa_cons (pv 0) (pa_cons (pe_callB (kLen (K := K)) (by rfl) T.b_len PySem.boot_len (pa_cons (pv 4) pa_nil)) pa_nil)))) (pss_one (ps_ret (pe_tup (pa_cons (pv 3) (pa_cons (pe_op (kAdd (K := K)) (pe_op (kAdd (K := K)) (pe_slice (kSl (K := K)) (pv 4) po_none (po_some (pv 7))) (pe_tup (pa_cons (pe_callD (d__law_near_test T) hr rfl passL (pa_cons (pv 0) (pa_cons (pv 1) (pa_cons (pe_ix (kIx (K := K)) (pv 4) (pv 7) (fun _ _ => rfl)) pa_nil)))) pa_nil))) (pe_slice (kSl (K := K)) (pv 4) (po_some (pe_op (kAdd (K := K)) (pv 7) pe_int)) po_none)) (pa_cons (pv 5) pa_nil))))))) pss_nil) (pss_cons (ps_set (i := 7) sc__law_near_rule.nd rfl (by first | exact Or.inl rfl | exact Or.inr rfl) (pe_callD (d__law_dip T) hr rfl passL (pa_cons (pv 0) (pa_cons (pe_callB (kLen (K := K)) (by rfl) T.b_len PySem.boot_len (pa_cons (pv 5) pa_nil)) pa_nil)))) (pss_one (ps_ret (pe_tup (pa_cons (pv 3) (pa_cons (pv 4) (pa_cons (pe_op (kAdd (K := K)) (pe_op (kAdd (K := K)) (pe_slice (kSl (K := K)) (pv 5) po_none (po_some (pv 7))) (pe_tup (pa_cons (pe_callD (d__law_action T) hr rfl passL (pa_cons (pv 0) (pa_cons (pv 1) pa_nil))) pa_nil))) (pe_slice (kSl (K := K)) (pv 5) (po_some (pe_op (kAdd (K := K)) (pv 7) pe_int)) po_none)) pa_nil))))))))))))), ?_⟩
  walk_at "rn"
  obtain ⟨ax, xs, rfl, sx, dx⟩ := dp_tup hd
  cases dx with | cons h0 dx =>
  cases dx with | cons h1 dx =>
  cases dx with | cons h2' dx =>
  cases dx
  cases dp_str h0
  refine ⟨_, rfl, _, sx, rfl, _, _, rfl, _, _, rfl, _, _, rfl, rfl, ?_⟩
  refine ⟨p, _, n, rfl, hp, by omega, by decide, by decide, fun r H1 r0 r1 g1 p1 => ?_⟩
  have k1 := NLs.gr07 hp g1
  have lt : layD 2 (.tuple ts) := lay _ (by simp)
  have tpt : tpD 2 (.tuple ts) := fun t m => (ht t m).tp
  have tpa : tpD 2 (.tuple as) := fun t m => (has t m).tp
  have d1 := dp_nls k1 2 tpt h1
  have d2 := dp_nls k1 2 tpa h2'
  have a1 := sqT_gr ha hp g1
  have out : ∀ {z : Str} {v1 v2 : V} {us bs : List PyData} {H2 H3 : Hp} {t : Addr} {m : Nat}, z ∈ eventsS → us.length ≤ 4 → 1 ≤ bs.length → bs.length ≤ 4 → (∀ t ∈ us, TestIs dsk t) → (∀ a ∈ bs, ActIs dsk a) → Gr p H1 H2 → PotAt H2 p m → m ≤ n + 6 → Same H2 H3 → Dp K H3 v1 (.tuple us) → Dp K H3 v2 (.tuple bs) → H3 t = some (.tup [.str z, v1, v2]) → Q (.ref t) H3 := fun {z v1 v2 us bs H2 H3 t m} hz l1 l2 l3 hu hb g pm hm s e1 e2 et =>
    q _ _ H3 (rule_mk7 hz l1 l2 l3 hu hb) (.tup (.inl (.inl et)) (.cons (.str _) (.cons e1 (.cons e2 .nil)))) ((g1.trans g).trans (Gr.of s)) ((pm.same s).mono hm)
  dsimp only
  rw [rEqU_ii]
  refine ⟨_, rfl, if_skip ?N fun c N => ?_⟩
  case N =>
    rw [rEqU_ii]
    refine ⟨_, rfl, if_skip ?N fun c N => ?_⟩
    case N =>
      rw [rEqU_ii]
      refine ⟨_, rfl, if_skip ?N fun c N => ?_⟩
      case N =>
        rw [rEqU_ii]
        refine ⟨_, rfl, ?_⟩
        refine ne_nil_way (K := K) d1 (m := 2) lt (by decide) (fun H2 s2 => ?_) (fun c ne H2 s2 => ?_)
        · refine len_dp (dpSame s2 d2) ?_
          refine ⟨p, _, _, rfl, p1.same s2, by omega, by omega, by omega, fun z H3 z0 z1 g3 p3 => ⟨_, rfl, ?_⟩⟩
          obtain ⟨k, rfl⟩ := Int.eq_ofNat_of_zero_le z0
          have hk : k < as.length := by omega
          have g13 := (Gr.of (p := p) s2).trans g3
          have k13 := NLs.gr07 p1 g13
          refine sl_dp (dp_nls k13 2 tpa d2) fun v1 H4 s4 hh4 => ?_
          rw [cutD_to (by omega)] at hh4
          refine ⟨p, a, _, dsk, rfl, p3.same s4, by omega, sqT_gr a1 p1 (g13.trans (Gr.of s4)), l1, l4, fun v x H5 gx fx g5 p5 => ⟨by decide +kernel, ?_⟩⟩
          walk_at "lay"
          rename_i t H6 s6 n6 e6
          have k45 := NLs.gr07 (p3.same s4) g5
          have tk : tpD 2 (.tuple (as.take k)) := fun t m => tpa t (List.mem_of_mem_take m)
          refine cat_dp (dpSame s6 (dp_nls k45 2 tk hh4)) (.tup (.inl (.inl e6)) (.cons (dpSame s6 fx.dp) .nil)) (by rw [List.length_take]; omega) (by simp) fun v2 H7 s7 h7 => ri_ii ⟨_, rfl, ?_⟩
          rw [show (k : Int) + 1 = ((k + 1 : Nat) : Int) by omega]
          have g17 := (g13.trans (Gr.of s4)).trans (g5.trans (Gr.of (s6.trans s7)))
          refine sl_dp (dp_nls (NLs.gr07 p1 g17) 2 tpa d2) fun v3 H8 s8 h8 => ?_
          rw [cutD_from (by omega)] at h8
          refine cat_dp (dpSame s8 h7) h8 (by rw [List.length_append, List.length_take, List.length_singleton]; omega) (by rw [List.length_drop]; omega) fun v4 H9 s9 h9 => ⟨by decide +kernel, ?_⟩
          walk_at "lay"
          rename_i t2 H10 s10 n10 e10
          have g19 := (g17.trans (Gr.of s8)).trans (Gr.of s9)
          exact out hz h2 (by rw [len_ins hk]; exact h3) (by rw [len_ins hk]; exact h4) ht (fun e m => by rcases mem_ins m with m | rfl; exact has e m; exact act_of gx) g19 (p5.same ((s6.trans s7).trans (s8.trans s9))) (by omega) s10 (dpSame s10 (dp_nls (NLs.gr07 p1 g19) 2 tpt d1)) (dpSame s10 h9) e10
        · refine len_dp (dpSame s2 d1) ?_
          have l0 : 0 < ts.length := by cases ts with | nil => exact absurd rfl ne | cons x xs => simp
          refine ⟨p, _, _, rfl, p1.same s2, by omega, by omega, by omega, fun z H3 z0 z1 g3 p3 => ⟨_, rfl, ?_⟩⟩
          obtain ⟨k, rfl⟩ := Int.eq_ofNat_of_zero_le z0
          have hk : k < ts.length := by omega
          have g13 := (Gr.of (p := p) s2).trans g3
          have k13 := NLs.gr07 p1 g13
          refine sl_dp (dp_nls k13 2 tpt d1) fun v1 H4 s4 hh4 => ?_
          rw [cutD_to (by omega)] at hh4
          refine ix_dp (dpSame s4 (dp_nls k13 2 tpt d1)) (List.getElem?_eq_getElem hk) fun u du => ?_
          refine ⟨p, a, _, dsk, u, ts[k], rfl, p3.same s4, by omega, sqT_gr a1 p1 (g13.trans (Gr.of s4)), l1, l4, du, ht _ (List.getElem_mem _), fun v x H5 gx fx g5 p5 => ⟨by decide +kernel, ?_⟩⟩
          walk_at "lay"
          rename_i t H6 s6 n6 e6
          have k45 := NLs.gr07 (p3.same s4) g5
          have tk : tpD 2 (.tuple (ts.take k)) := fun t m => tpt t (List.mem_of_mem_take m)
          refine cat_dp (dpSame s6 (dp_nls k45 2 tk hh4)) (.tup (.inl (.inl e6)) (.cons (dpSame s6 fx) .nil)) (by rw [List.length_take]; omega) (by simp) fun v2 H7 s7 h7 => ri_ii ⟨_, rfl, ?_⟩
          rw [show (k : Int) + 1 = ((k + 1 : Nat) : Int) by omega]
          have g17 := (g13.trans (Gr.of s4)).trans (g5.trans (Gr.of (s6.trans s7)))
          refine sl_dp (dp_nls (NLs.gr07 p1 g17) 2 tpt d1) fun v3 H8 s8 h8 => ?_
          rw [cutD_from (by omega)] at h8
          refine cat_dp (dpSame s8 h7) h8 (by rw [List.length_append, List.length_take, List.length_singleton]; omega) (by rw [List.length_drop]; omega) fun v4 H9 s9 h9 => ⟨by decide +kernel, ?_⟩
          walk_at "lay"
          rename_i t2 H10 s10 n10 e10
          have g19 := (g17.trans (Gr.of s8)).trans (Gr.of s9)
          exact out hz (by rw [len_ins hk]; exact h2) h3 h4 (fun e m => by rcases mem_ins m with m | rfl; exact ht e m; exact gx) has g19 (p5.same ((s6.trans s7).trans (s8.trans s9))) (by omega) s10 (dpSame s10 h9) (dpSame s10 (dp_nls (NLs.gr07 p1 g19) 2 tpa d2)) e10
      refine ⟨p, _, 4, 2, _, as, rfl, p1, by omega, d2, tpa, by omega, by decide, fun v es H2 nr hv g2 p2 => ⟨by decide +kernel, ?_⟩⟩
      walk_at "lay"
      rename_i t H3 s3 n3 e3
      exact out hz h2 (by have := nr.2.1 (by intro c; rw [c] at h3; simp at h3); cases es with | nil => exact absurd rfl this | cons x xs => simp) (nr.2.2 h4) ht (fun e m => has e (nr.1 e m)) g2 p2 (by omega) s3 (dpSame s3 (dp_nls (NLs.gr07 p1 g2) 2 tpt d1)) (dpSame s3 hv) e3
    refine ⟨p, _, 4, 2, _, ts, rfl, p1, by omega, d1, tpt, by omega, by decide, fun v es H2 nr hv g2 p2 => ⟨by decide +kernel, ?_⟩⟩
    walk_at "lay"
    rename_i t H3 s3 n3 e3
    exact out hz (nr.2.2 h2) h3 h4 (fun e m => ht e (nr.1 e m)) has g2 p2 (by omega) s3 (dpSame s3 hv) (dpSame s3 (dp_nls (NLs.gr07 p1 g2) 2 tpa d2)) e3
  refine ⟨by decide +kernel, ?_⟩
  walk_at "lay"
  rename_i l H2 s2 n2 e2
  refine ⟨p, _, _, rfl, p1.same s2, by omega, by decide, by decide, fun y H3 y0 y1 g3 p3 => ?_⟩
  have lp : l ≠ p := fun z => p1.ne (z ▸ n2)
  refine ix_pick (zs := eventsS) (.inl (.inl (g3.keep l _ lp e2))) y0 y1 fun z hz' => ⟨by decide +kernel, ?_⟩
  walk_at "lay"
  rename_i t H4 s4 n4 e4
  have k3 := NLs.gr07 p1 ((Gr.of (p := p) s2).trans g3)
  exact out hz' h2 h3 h4 ht has ((Gr.of (p := p) s2).trans g3) p3 (by omega) s4 (dpSame s4 (dp_nls k3 2 tpt d1)) (dpSame s4 (dp_nls k3 2 tpa d2)) e4
theorem dps_strs7 {H : Hp} : ∀ zs : List Str, DpAll K H (zs.map V.str) (zs.map PyData.str)
  | [] => .nil
  | z :: r => .cons (.str z) (dps_strs7 r)
theorem dp_strsT {H : Hp} {a : Addr} {zs : List Str} (h : SqT K H a (zs.map V.str)) : Dp K H (.ref a) (.tuple (zs.map PyData.str)) := .tup h (dps_strs7 zs)
theorem good_d7 {dsk : List Str} {rs : List PyData} (g : goodBook dsk rs) : 1 ≤ dsk.length ∧ dsk.length ≤ 4 := by
  have ad := g.1
  unfold areDesksD at ad
  simp only [Bool.and_eq_true, decide_eq_true_eq, List.length_map] at ad
  exact ad.1.1
theorem test_rev {dsk : List Str} {d : PyData} (h : TestIs dsk d) : TestIs dsk.reverse d := by
  cases h with
  | status z b h => exact .status z b h
  | desk z b h => exact .desk z b (List.mem_reverse.mpr h)
  | answered b => exact .answered b
  | marked b => exact .marked b
  | days n h g => exact .days n h g
theorem act_rev {dsk : List Str} {d : PyData} (h : ActIs dsk d) : ActIs dsk.reverse d := by
  cases h with
  | status z h => exact .status z h
  | desk z h => exact .desk z (List.mem_reverse.mpr h)
  | reply => exact .reply
  | mark b => exact .mark b
  | stop => exact .stop
theorem good_rev {dsk : List Str} {rs : List PyData} (g : goodBook dsk rs) : goodBook dsk.reverse rs := by
  refine good_of ?_ (good_len g) fun e m => ?_
  · have ad := g.1
    unfold areDesksD at ad ⊢
    dsimp only at ad ⊢
    rw [strs_mapP] at ad ⊢
    simp only [Bool.and_eq_true, decide_eq_true_eq, List.all_eq_true, List.length_map, List.length_reverse] at ad ⊢
    refine ⟨⟨ad.1.1, fun x hx => ad.1.2 x ?_⟩, (List.reverse_perm dsk).nodup_iff.mpr ad.2⟩
    obtain ⟨y, hy, rfl⟩ := List.mem_map.mp hx
    exact List.mem_map_of_mem (List.mem_reverse.mp hy)
  · obtain ⟨ev, ts, as, rfl, hz, h2, h3, h4, ht, has⟩ := rule_of7 (good_all g e m)
    exact rule_mk7 hz h2 h3 h4 (fun t m => test_rev (ht t m)) fun a m => act_rev (has a m)
def spNear (K : PySem.W.Frag) : Sp := fun vs H Q _ => ∃ (p a : Addr) (n : Nat) (dsk : List Str) (vr : V) (rs : List PyData), vs = [.ref p, .ref a, vr] ∧ PotAt H p n ∧ n + 10 < 2 ^ 60 ∧ SqT K H a (dsk.map V.str) ∧ Dp K H vr (.tuple rs) ∧ goodBook dsk rs ∧ ∀ (t : Addr) vd vr' dsk' rs' H', goodBook dsk' rs' → SqT K H' t [vd, vr'] → Dp K H' vd (.tuple (dsk'.map PyData.str)) → Dp K H' vr' (.tuple rs') → Gr p H H' → PotAt H' p (n + 10) → Q (.ref t) H'
theorem d__law_near (T : TX P K mg Z) : DefOk P w K mg base "_law_near" ["pot", "desks", "rules"] 5 (spNear K) := by
  refine T.f__law_near.ok sc__law_near (by rintro _ _ _ _ ⟨_, _, _, _, _, _, rfl, _⟩; rfl) fun f cdv A outer s H vs Q E hr h => ?_
  obtain ⟨p, a, n, dsk, vr, rs, rfl, hp, hn, ha, hd, gb, q⟩ := h
  refine ⟨_, (pss_cons (ps_set (i := 3) sc__law_near.nd rfl (by first | exact Or.inl rfl | exact Or.inr rfl) (pe_callD (d__law_dip T) hr rfl passL (pa_cons (pv 0) (pa_cons pe_int pa_nil)))) (pss_cons (ps_if (pt_cmpR (kEq (K := K) hr.units) (pv 3) pe_int (nomark _)) (pss_one (ps_ret (pe_tup (pa_cons (pe_revT (K := K) (pv 1)) (pa_cons (pv 2) pa_nil))))) pss_nil) (pss_cons (ps_if (pt_cmpR (kEq (K := K) hr.units) (pv 3) pe_int (nomark _)) (pss_one (ps_ret (pe_tup (pa_cons (pv 1) (pa_cons (pe_callD (d__law_near_row T) hr rfl passL (pa_cons (pv 0) (pa_cons (pv 2) (pa_cons pe_int pa_nil)))) pa_nil))))) pss_nil) (pss_cons (ps_if (PW.pt (pw_and (pt_cmpR op_lt (pv 3) pe_int (nomark _)) (pw_and1 (pt_cmpR (kNe (K := K) hr.units) (pv 2) (pe_tup pa_nil) (nomark _))))) (pss_cons (ps_set (i := 4) sc__law_near.nd rfl (by first | exact Or.inl rfl | exact Or.inr rfl) (pe_callD (d__law_dip T) hr rfl passL (pa_cons (pv 0) (pa_cons (pe_callB (kLen (K := K)) (by rfl) T.b_len PySem.boot_len (pa_cons (pv 2) pa_nil)) pa_nil)))) (pss_one (ps_ret (pe_tup (pa_cons (pv 1) (pa_cons (pe_op (kAdd (K := K)) (pe_op (kAdd (K := K)) (pe_slice (kSl (K := K)) (pv 2) po_none (po_some (pv 4))) (pe_tup (pa_cons (pe_callD (d__law_near_rule T) hr rfl passL (pa_cons (pv 0) (pa_cons (pv 1) (pa_cons (pe_ix (kIx (K := K)) (pv 2) (pv 4) (fun _ _ => rfl)) pa_nil)))) pa_nil))) (pe_slice (kSl (K := K)) (pv 2) (po_some (pe_op (kAdd (K := K)) (pv 4) pe_int)) po_none)) pa_nil)))))) pss_nil) (pss_one (ps_ret (pe_tup (pa_cons (pv 1) (pa_cons (pv 2) pa_nil))))))))), ?_⟩
  walk_at "rn"
  refine ⟨p, _, n, rfl, hp, by omega, by decide, by decide, fun r H1 r0 r1 g1 p1 => ?_⟩
  walk_at "rn"
  have gl := good_len gb
  have dl := good_d7 gb
  have ga := good_all gb
  have tpr := rules_tpR ga
  have tpk : tpD 1 (.tuple (dsk.map PyData.str)) := fun x m => by obtain ⟨z, _, rfl⟩ := List.mem_map.mp m; rfl
  have a1 := sqT_gr ha hp g1
  have d1 := dp_nls (NLs.gr07 hp g1) 4 tpr hd
  have same : ∀ H2, Same H1 H2 → 2 ≤ sizeLine ∧ ∀ t, H2 t = none → Q (.ref t) (upd H2 t (.tup [.ref a, vr])) := fun H2 s2 => ⟨by decide +kernel, fun t nt => by
    have s3 := s2.trans (Same.put (o := .tup [.ref a, vr]) (Same.refl H2) nt)
    exact q t _ _ dsk rs _ gb (.inl (.inl upd_same)) (dp_strsT (same_seqT s3 a1)) (dpSame s3 d1) (g1.trans (Gr.of s3)) ((p1.same s3).mono (by omega))⟩
  refine if_skip ?N fun c N => ?_
  case N =>
    refine if_skip ?N fun c N => ?_
    case N =>
      refine ne_nil_way (K := K) d1 (m := 4) (rules_lay gb) (by decide) (fun H2 s2 => same H2 s2) (fun c ne H2 s2 => ?_)
      refine len_dp (dpSame s2 d1) ?_
      have l0 : 0 < rs.length := by cases rs with | nil => exact absurd rfl ne | cons x xs => simp
      refine ⟨p, _, _, rfl, p1.same s2, by omega, by omega, by omega, fun z H3 z0 z1 g3 p3 => ⟨_, rfl, ?_⟩⟩
      obtain ⟨k, rfl⟩ := Int.eq_ofNat_of_zero_le z0
      have hk : k < rs.length := by omega
      have g13 := (Gr.of (p := p) s2).trans g3
      have k13 := NLs.gr07 p1 g13
      refine sl_dp (dp_nls k13 4 tpr d1) fun v1 H4 s4 hh4 => ?_
      rw [cutD_to (by omega)] at hh4
      refine ix_dp (dpSame s4 (dp_nls k13 4 tpr d1)) (List.getElem?_eq_getElem hk) fun u du => ?_
      refine ⟨p, a, _, dsk, u, rs[k], rfl, p3.same s4, by omega, sqT_gr a1 p1 (g13.trans (Gr.of s4)), dl.1, dl.2, good_low gb, du, ga _ (List.getElem_mem _), fun v x H5 gx fx g5 p5 => ⟨by decide +kernel, ?_⟩⟩
      walk_at "lay"
      rename_i t H6 s6 n6 e6
      have k45 := NLs.gr07 (p3.same s4) g5
      have tk : tpD 4 (.tuple (rs.take k)) := fun t m => tpr t (List.mem_of_mem_take m)
      refine cat_dp (dpSame s6 (dp_nls k45 4 tk hh4)) (.tup (.inl (.inl e6)) (.cons (dpSame s6 fx) .nil)) (by rw [List.length_take]; omega) (by simp) fun v2 H7 s7 h7 => ri_ii ⟨_, rfl, ?_⟩
      rw [show (k : Int) + 1 = ((k + 1 : Nat) : Int) by omega]
      have g17 := (g13.trans (Gr.of s4)).trans (g5.trans (Gr.of (s6.trans s7)))
      refine sl_dp (dp_nls (NLs.gr07 p1 g17) 4 tpr d1) fun v3 H8 s8 h8 => ?_
      rw [cutD_from (by omega)] at h8
      refine cat_dp (dpSame s8 h7) h8 (by rw [List.length_append, List.length_take, List.length_singleton]; omega) (by rw [List.length_drop]; omega) fun v4 H9 s9 h9 => ⟨by decide +kernel, ?_⟩
      walk_at "lay"
      rename_i t2 H10 s10 n10 e10
      have g19 := ((g17.trans (Gr.of s8)).trans (Gr.of s9)).trans (Gr.of s10)
      exact q t2 _ _ dsk _ _ (good_of gb.1 (by rw [len_ins hk]; exact gl) (fun e m => by rcases mem_ins m with m | rfl; exact ga e m; exact gx)) (.inl (.inl e10)) (dp_strsT (sqT_gr a1 p1 g19)) (dpSame s10 h9) (g1.trans g19) ((p5.same ((s6.trans s7).trans ((s8.trans s9).trans s10))).mono (by omega))
    refine ⟨p, _, 8, 4, _, rs, rfl, p1, by omega, d1, tpr, gl, by decide, fun v es H2 nr hv g2 p2 => ⟨by decide +kernel, ?_⟩⟩
    walk_at "lay"
    rename_i t H3 s3 n3 e3
    exact q t _ _ dsk es _ (good_of gb.1 (nr.2.2 gl) fun e m => ga e (nr.1 e m)) (.inl (.inl e3)) (dp_strsT (sqT_gr a1 p1 (g2.trans (Gr.of s3)))) (dpSame s3 hv) ((g1.trans g2).trans (Gr.of s3)) ((p2.same s3).mono (by omega))
  refine ⟨_, a1, ?_⟩
  walk_at "lay"
  rename_i t1 H2 s2 n2 e2
  refine ⟨by decide +kernel, ?_⟩
  walk_at "lay"
  rename_i t2 H3 s3 n3 e3
  have s23 := s2.trans s3
  have er : ((dsk.map V.str).reverse : List V) = dsk.reverse.map V.str := by rw [List.map_reverse]
  have e2' := s3 _ _ e2
  rw [er] at e2'
  exact q t2 _ _ dsk.reverse rs _ (good_rev gb) (.inl (.inl e3)) (dp_strsT (.inl (.inl e2'))) (dpSame s23 d1) (g1.trans (Gr.of s23)) ((p1.same s23).mono (by omega))
theorem sameB_comm {d d' : List Str} {r r' : List PyData} : sameB d r d' r' = sameB d' r' d r := by
  unfold sameB
  rw [PySem.W.eqv_comm (.tuple r) (.tuple r'), show decide (d = d') = decide (d' = d) from decide_eq_decide.mpr ⟨Eq.symm, Eq.symm⟩]
def spSame (K : PySem.W.Frag) (C : Addr) : Sp := fun vs H Q _ => ∃ b dsk rs o due, vs = [b, o, .bl due] ∧ BookIs K C H b dsk rs ∧ ((∃ dsk' rs', BookIs K C H o dsk' rs' ∧ due = sameB dsk' rs' dsk rs) ∨ (OffV K o H ∧ due = false)) ∧ ∀ H', Same H H' → Q (.bl true) H'
theorem same_eq {H : Hp} {b o : V} {dsk : List Str} {rs : List PyData} {due : Bool} {R : VK} (bk : BookIs K Z.Book H b dsk rs) (ho : (∃ dsk' rs', BookIs K Z.Book H o dsk' rs' ∧ due = sameB dsk' rs' dsk rs) ∨ (OffV K o H ∧ due = false)) (q : R (.bl due) H) : rOr (rOwn2 Z.Book (spEqB K Z.Book) E0) (rEqX K Z.Book (spEqX K Z.Book) E0 false) b o H R ∧ rOr (rOwn2 Z.Book (spEqB K Z.Book) E0) (rEqX K Z.Book (spEqX K Z.Book) E0 false) o b H R := by
  obtain ⟨a, dx, vd, vr, rfl, ha, _⟩ := id bk
  rcases ho with ⟨dsk', rs', bk', rfl⟩ | ⟨off, rfl⟩
  · obtain ⟨a', dx', vd', vr', rfl, ha', _⟩ := id bk'
    exact ⟨.inl ⟨a, _, _, a', _, _, rfl, rfl, ha, ha', _, _, _, _, _, _, rfl, bk, bk', by rw [sameB_comm]; exact q⟩, .inl ⟨a', _, _, a, _, _, rfl, rfl, ha', ha, _, _, _, _, _, _, rfl, bk', bk, q⟩⟩
  · exact ⟨.inr ⟨a, _, _, o, ha, off, .inl ⟨rfl, rfl⟩, _, _, _, _, rfl, bk, off, _, rfl, q⟩, .inr ⟨a, _, _, o, ha, off, .inr ⟨rfl, rfl⟩, _, _, _, _, rfl, bk, off, _, rfl, q⟩⟩
theorem same_ne {H : Hp} {b o : V} {dsk : List Str} {rs : List PyData} {due : Bool} {R : VK} (bk : BookIs K Z.Book H b dsk rs) (ho : (∃ dsk' rs', BookIs K Z.Book H o dsk' rs' ∧ due = sameB dsk' rs' dsk rs) ∨ (OffV K o H ∧ due = false)) (q : R (.bl (!due)) H) : rOr (rNeO Z.Book (spEqB K Z.Book) E0) (rEqX K Z.Book (spEqX K Z.Book) E0 true) b o H R ∧ rOr (rNeO Z.Book (spEqB K Z.Book) E0) (rEqX K Z.Book (spEqX K Z.Book) E0 true) o b H R := by
  obtain ⟨a, dx, vd, vr, rfl, ha, _⟩ := id bk
  rcases ho with ⟨dsk', rs', bk', rfl⟩ | ⟨off, rfl⟩
  · obtain ⟨a', dx', vd', vr', rfl, ha', _⟩ := id bk'
    exact ⟨.inl ⟨a, _, _, a', _, _, rfl, rfl, ha, ha', _, _, _, _, _, _, rfl, bk, bk', _, rfl, by rw [sameB_comm]; exact q⟩, .inl ⟨a', _, _, a, _, _, rfl, rfl, ha', ha, _, _, _, _, _, _, rfl, bk', bk, _, rfl, q⟩⟩
  · exact ⟨.inr ⟨a, _, _, o, ha, off, .inl ⟨rfl, rfl⟩, _, _, _, _, rfl, bk, off, _, rfl, q⟩, .inr ⟨a, _, _, o, ha, off, .inr ⟨rfl, rfl⟩, _, _, _, _, rfl, bk, off, _, rfl, q⟩⟩
theorem off_same {H H' : Hp} {o : V} (h : OffV K o H) (s : Same H H') : OffV K o H' := by
  rcases h with h | h | h | h | ⟨p, e, ⟨xs, h⟩ | ⟨xs, h⟩⟩
  · exact .inl h
  · exact .inr (.inl h)
  · exact .inr (.inr (.inl h))
  · exact .inr (.inr (.inr (.inl h)))
  · exact .inr (.inr (.inr (.inr ⟨p, e, .inl ⟨xs, dlL_same s h⟩⟩)))
  · exact .inr (.inr (.inr (.inr ⟨p, e, .inr ⟨xs, same_seqT s h⟩⟩)))
theorem d__law_alike (T : TX P K mg Z) : DefOk P w K mg base "_law_alike" ["found", "due"] 4 (spA K 3) := d_alike T 3
theorem d__law_same (T : TX P K mg Z) : DefOk P w K mg base "_law_same" ["one", "other", "due"] 8 (spSame K Z.Book) := by
  refine T.f__law_same.ok sc__law_same (by rintro _ _ _ _ ⟨_, _, _, _, _, rfl, _⟩; rfl) fun f cdv A outer s H vs Q E hr h => ?_
  obtain ⟨b, dsk, rs, o, due, rfl, bk, ho, q⟩ := h
  refine ⟨_, (pss_cons (ps_if (pt_not (pt_val (pe_callD (d__law_alike T) hr rfl passL (pa_cons (pe_lst (pa_cons (pe_cmpR (opOr (op_eqO (m_Book_eq T) hr T.nf_Book passL) (op_eqX (m_Book_eqX T) hr (oc_book T) passL)) (pv 0) (pv 1) (nomark _)) (pa_cons (pe_cmpR (opOr (op_eqO (m_Book_eq T) hr T.nf_Book passL) (op_eqX (m_Book_eqX T) hr (oc_book T) passL)) (pv 1) (pv 0) (nomark _)) pa_nil))) (pa_cons (pe_lst (pa_cons (pv 2) (pa_cons (pv 2) pa_nil))) pa_nil))))) (pss_one (ps_ret pe_bl)) pss_nil) (pss_one (ps_ret (pe_callD (d__law_alike T) hr rfl passL (pa_cons (pe_lst (pa_cons (pe_cmpR (opOr (op_neO (m_Book_eq T) hr T.nf_Book T.mo_Book T.ne_Book passL) (op_neX (m_Book_eqX T) hr (oc_book T) T.mo_Book T.ne_Book passL)) (pv 0) (pv 1) (nomark _)) (pa_cons (pe_cmpR (opOr (op_neO (m_Book_eq T) hr T.nf_Book T.mo_Book T.ne_Book passL) (op_neX (m_Book_eqX T) hr (oc_book T) T.mo_Book T.ne_Book passL)) (pv 1) (pv 0) (nomark _)) pa_nil))) (pa_cons (pe_lst (pa_cons (pe_not (pv 2)) (pa_cons (pe_not (pv 2)) pa_nil))) pa_nil)))))), ?_⟩
  walk_at "rn"
  refine (same_eq bk ho ?_).1
  refine (same_eq bk ho ?_).2
  refine ⟨by decide +kernel, ?_⟩
  walk_at "lay"
  rename_i l1 H1 s1 n1 e1
  refine ⟨by decide +kernel, ?_⟩
  walk_at "lay"
  rename_i l2 H2 s2 n2 e2
  refine ⟨_, _, .list [.bool due, .bool due], rfl, .lst (.inl (.inl (s2 _ _ e1))) (.cons (.bl _) (.cons (.bl _) .nil)), .lst (.inl (.inl e2)) (.cons (.bl _) (.cons (.bl _) .nil)), ⟨by simp, fun e m => ?_⟩, fun H3 s3 => ⟨_, rfl, ?_⟩⟩
  · simp only [List.mem_cons, List.not_mem_nil, or_false] at m
    rcases m with rfl | rfl <;> rfl
  rw [if_neg (by decide)]
  have s03 := (s1.trans s2).trans s3
  have ho3 : (∃ dsk' rs', BookIs K Z.Book H3 o dsk' rs' ∧ due = sameB dsk' rs' dsk rs) ∨ (OffV K o H3 ∧ due = false) := by
    rcases ho with ⟨dsk', rs', bk', e⟩ | ⟨off, e⟩
    · exact .inl ⟨dsk', rs', bk'.same s03, e⟩
    · exact .inr ⟨off_same off s03, e⟩
  refine (same_ne (bk.same s03) ho3 ?_).1
  refine (same_ne (bk.same s03) ho3 ?_).2
  refine ⟨by decide +kernel, ?_⟩
  walk_at "lay"
  rename_i l4 H4 s4 n4 e4
  refine ⟨by decide +kernel, ?_⟩
  walk_at "lay"
  rename_i l5 H5 s5 n5 e5
  refine ⟨_, _, .list [.bool (!due), .bool (!due)], rfl, .lst (.inl (.inl (s5 _ _ e4))) (.cons (.bl _) (.cons (.bl _) .nil)), .lst (.inl (.inl e5)) (.cons (.bl _) (.cons (.bl _) .nil)), ⟨by simp, fun e m => ?_⟩, fun H6 s6 => q _ (s03.trans ((s4.trans s5).trans s6))⟩
  simp only [List.mem_cons, List.not_mem_nil, or_false] at m
  rcases m with rfl | rfl <;> rfl
theorem BookIs.nls07 {C : Addr} {H H' : Hp} {b : V} {dsk : List Str} {rs : List PyData} (h : BookIs K C H b dsk rs) (k : NLs H H') : BookIs K C H' b dsk rs := by
  obtain ⟨a, dx, vd, vr, e, ha, hd, hr, gb⟩ := h
  exact ⟨a, dx, vd, vr, e, k _ _ ha trivial, dp_nls k 1 (fun x m => by obtain ⟨z, _, rfl⟩ := List.mem_map.mp m; rfl) hd, dp_nls k 4 (rules_tpR (good_all gb)) hr, gb⟩
def planP (p : List Str × List PyData) : PyData := .tuple [.tuple (p.1.map PyData.str), .tuple p.2]
theorem eqv_plan7 {d d' : List Str} {r r' : List PyData} : PyData.eqv (planP (d, r)) (planP (d', r')) = sameB d r d' r' := by
  show (PyData.eqv (.tuple (d.map PyData.str)) (.tuple (d'.map PyData.str)) && (PyData.eqv (.tuple r) (.tuple r') && true)) = _
  rw [eqv_strs, Bool.and_true]
  rfl
theorem plan_shaped7 {d : List Str} {r : List PyData} (g : goodBook d r) : SeqAt.shaped (planP (d, r)) = true := layD.shaped (n := 5) (fun e m => by
  rcases List.mem_cons.mp m with rfl | m
  · exact fun e m => by
      obtain ⟨z, hz, rfl⟩ := List.mem_map.mp m
      exact good_low g z hz
  · rw [List.mem_singleton.mp m]
    exact rules_lay g) (by decide)
theorem good_txt7 {dsk : List Str} {rs : List PyData} (g : goodBook dsk rs) : bookTxtOk dsk rs := by
  have h := g.1
  unfold areDesksD at h
  simp only [Bool.and_eq_true, decide_eq_true_eq, List.length_map, List.all_eq_true] at h
  have nm : ∀ z ∈ dsk, isNameS z = true := fun z m => h.1.2 (.str z) (List.mem_map.mpr ⟨z, m, rfl⟩)
  refine ⟨fun z m => (name_len (nm z m)).2, by omega, ?_, fun r m => rule_B nm (good_all g r m)⟩
  have := good_len g
  omega
def spRight : Sp := fun vs H Q _ => ∃ p, vs = [V.ref p] ∧ PotAt H p 0 ∧ ∀ H', Gr p H H' → Q (.bl true) H'
theorem d__law_right (T : TX P K mg Z) : DefOk P w K mg base "_law_right" ["pot"] 12 spRight := by
  refine T.f__law_right.ok sc__law_right (by rintro _ _ _ _ ⟨_, rfl, _⟩; rfl) fun f cdv A outer s H vs Q E hr h => ?_
  obtain ⟨p, rfl, hp, q⟩ := h
  refine ⟨_, (pss_cons (ps_set (i := 1) sc__law_right.nd rfl (by first | exact Or.inl rfl | exact Or.inr rfl) (pe_callD (d__law_desks T) hr rfl passL (pa_cons (pv 0) pa_nil))) (pss_cons (ps_set (i := 2) sc__law_right.nd rfl (by first | exact Or.inl rfl | exact Or.inr rfl) (pe_callD (d__law_rules T) hr rfl passL (pa_cons (pv 0) (pa_cons (pv 1) (pa_cons pe_int pa_nil))))) (pss_cons (ps_asg (pe_tup (pa_cons (pe_makeD (mk_Book T) hr rfl passL (pa_cons (pv 1) (pa_cons (pv 2) pa_nil))) (pa_cons (pe_callD (d__law_dip T) hr rfl passL (pa_cons (pv 0) (pa_cons pe_int pa_nil))) pa_nil))) (kTup (K := K) (n := 2) rfl (pgs_cons (pg_name (i := 3) sc__law_right.nd rfl (by first | exact Or.inl rfl | exact Or.inr rfl)) (pgs_cons (pg_name (i := 4) sc__law_right.nd rfl (by first | exact Or.inl rfl | exact Or.inr rfl)) pgs_nil)))) (pss_cons (ps_set (i := 5) sc__law_right.nd rfl (by first | exact Or.inl rfl | exact Or.inr rfl) (pe_callD (d__law_near T) hr rfl passL (pa_cons (pv 0) (pa_cons (pv 1) (pa_cons (pv 2) pa_nil))))) (pss_cons (ps_set (i := 6) sc__law_right.nd rfl (by first | exact Or.inl rfl | exact Or.inr rfl) (pe_callD (d__law_made T) hr rfl passL (pa_cons (pe_callD (d__law_dip T) hr rfl passL (pa_cons (pv 0) (pa_cons pe_int pa_nil))) (pa_cons (pe_ix (kIx (K := K)) (pv 5) pe_int (fun _ _ => rfl)) (pa_cons (pe_ix (kIx (K := K)) (pv 5) pe_int (fun _ _ => rfl)) pa_nil))))) (pss_cons (ps_set (i := 7) sc__law_right.nd rfl (by first | exact Or.inl rfl | exact Or.inr rfl) (pe_cmpR (kEq (K := K) hr.units) (pv 5) (pe_tup (pa_cons (pv 1) (pa_cons (pv 2) pa_nil))) (nomark _))) (pss_cons (ps_set (i := 8) sc__law_right.nd rfl (by first | exact Or.inl rfl | exact Or.inr rfl) (pe_lst (pa_cons pe_non (pa_cons (pv 2) (pa_cons (pv 1) (pa_cons (pe_callTy (kList (K := K)) (by rfl) T.b_list (by decide +kernel) (pa_cons (pv 2) pa_nil)) (pa_cons (pe_tup (pa_cons (pv 1) (pa_cons (pv 2) pa_nil))) (pa_cons (pe_callD (d_book_text T) hr rfl passL (pa_cons (pv 3) pa_nil)) (pa_cons (pe_callB (kLen (K := K)) (by rfl) T.b_len PySem.boot_len (pa_cons (pv 2) pa_nil)) (pa_cons pe_bl (pa_cons (pe_lst pa_nil) (pa_cons (pe_tup pa_nil) (pa_cons pe_str pa_nil))))))))))))) (pss_cons (ps_for (passes_of rfl) rfl (pi_range1 rfl T.b_range (pa_cons pe_int pa_nil)) (pg_name (i := 9) sc__law_right.nd rfl (by first | exact Or.inl rfl | exact Or.inr rfl)) (pss_cons (ps_if (PW.pt (pw_or (pt_not (pt_val (pe_callD (d__law_same T) hr rfl passL (pa_cons (pv 3) (pa_cons (pv 6) (pa_cons (pv 7) pa_nil)))))) (pw_or1 (pt_not (pt_val (pe_callD (d__law_same T) hr rfl passL (pa_cons (pv 3) (pa_cons (pe_callD (d__law_made T) hr rfl passL (pa_cons (pv 4) (pa_cons (pv 1) (pa_cons (pv 2) pa_nil)))) (pa_cons pe_bl pa_nil))))))))) (pss_one (ps_ret pe_bl)) pss_nil) (pss_one (ps_if (pt_cmpR (kNe (K := K) hr.units) (pe_lc (own := [("thing", 10)]) rfl sc__law_right.nd (kSeq (K := K) (pv 8)) (blkOk_by (N := ["pot", "desks", "rules", "book", "way", "plan", "near", "due", "some", "turn", "thing"]) (sc := defScope s__law_right) (own := [("thing", 10)]) (by decide +kernel)) (fun _ _ _ _ _ => (pg_name (i := 10) sc__law_right.nd rfl (by first | exact Or.inl rfl | exact Or.inr rfl))) (fun _ _ _ _ _ => (pts_one (pt_not (pt_val (pe_callD (d__law_same T) hr rfl passL (pa_cons (pv 3) (pa_cons (pv 10) (pa_cons pe_bl pa_nil)))))))) (fun _ _ _ _ _ => (pv 10))) (pe_lst pa_nil) (nomark _)) (pss_one (ps_ret pe_bl)) pss_nil)))) (pss_one (ps_ret (pe_and (pe_cmpR (kEq (K := K) hr.units) (pe_methD0 (m_Book_rules T) hr (pv 3) passL) (pv 2) (nomark _)) (pe_one (pe_cmpR (kEq (K := K) hr.units) (pe_methD0 (m_Book_rules T) hr (pv 6) passL) (pe_ix (kIx (K := K)) (pv 5) pe_int (fun _ _ => rfl)) (nomark _)))))))))))))), ?_⟩
  walk_at "rn"
  refine ⟨p, 0, rfl, hp, by omega, fun vd dsk H1 ad fd g1 p1 => ?_⟩
  obtain ⟨a, rfl, sa⟩ := dp_strs fd.dp
  have d14 : 1 ≤ dsk.length ∧ dsk.length ≤ 4 := by
    have ad := ad
    unfold areDesksD at ad
    simp only [Bool.and_eq_true, decide_eq_true_eq, List.length_map] at ad
    exact ad.1.1
  refine ⟨p, a, _, 8, dsk, rfl, p1, by omega, by decide, sa, d14.1, d14.2, fun vr rs H2 lr gr2 fr g2 p2 => ?_⟩
  have gb : goodBook dsk rs := good_of ad lr gr2
  have tpr := rules_tpR gr2
  have a2 := sqT_gr sa p1 g2
  refine make_good (dp_strsT a2) fr.dp gb fun x H3 s3 bk3 => ?_
  refine ⟨p, 36, _, rfl, p2.same s3, by omega, by decide, by decide, fun way H4 w0 w1 g4 p4 => ⟨by decide +kernel, ?_⟩⟩
  walk_at "lay"
  rename_i t5 H5 s5 n5 e5
  refine ⟨_, .inl (.inl e5), rfl, _, _, rfl, _, _, rfl, rfl, ?_⟩
  have g25 := ((Gr.of (p := p) s3).trans g4).trans (Gr.of s5)
  have k25 := NLs.gr07 p2 g25
  refine ⟨p, a, _, dsk, vr, rs, rfl, p4.same s5, by omega, sqT_gr a2 p2 g25, dp_nls k25 4 tpr fr.dp, gb, fun t vdn vrn dskN rsN H6 gN st dN rN g6 p6 => ?_⟩
  refine ⟨p, 36, _, rfl, p6, by omega, by decide, by decide, fun wn H7 wn0 wn1 g7 p7 => ?_⟩
  have k7 := NLs.gr07 p6 g7
  have st7 := sqT_gr st p6 g7
  have tpN := rules_tpR (good_all gN)
  have tpNd : tpD 1 (.tuple (dskN.map PyData.str)) := fun x m => by obtain ⟨z, _, rfl⟩ := List.mem_map.mp m; rfl
  refine ix_t st7 (atI_nat (j := 0) rfl) (ix_t st7 (atI_nat (j := 1) rfl) ?_)
  refine ⟨wn, _, _, dskN, rsN, rfl, wn0, dp_nls k7 1 tpNd dN, dp_nls k7 4 tpN rN, gN, fun bn H8 s8 bkn => ⟨by decide +kernel, ?_⟩⟩
  walk_at "lay"
  rename_i t9 H9 s9 n9 e9
  have s79 := s8.trans s9
  have g29 := (g25.trans g6).trans (g7.trans (Gr.of s79))
  have k29 := NLs.gr07 p2 g29
  have a9 := sqT_gr a2 p2 g29
  have r9 := dp_nls k29 4 tpr fr.dp
  rw [rEqU_r]
  refine ⟨_, _, .tup (same_seqT s79 st7) (.cons (dpSame s79 (dp_nls k7 1 tpNd dN)) (.cons (dpSame s79 (dp_nls k7 4 tpN rN)) .nil)), .tup (.inl (.inl e9)) (.cons (dp_strsT a9) (.cons r9 .nil)), plan_shaped7 gN, plan_shaped7 gb, ?_⟩
  rw [show PyData.eqv (.tuple [.tuple (dskN.map PyData.str), .tuple rsN]) (.tuple [.tuple (dsk.map PyData.str), .tuple rs]) = sameB dskN rsN dsk rs from eqv_plan7]
  obtain ⟨ar, xr, rfl, sr, dr⟩ := dp_tup r9
  refine list_t sr ?_
  walk_at "lay"
  rename_i l10 H10 s10 n10 e10
  refine ⟨by decide +kernel, ?_⟩
  walk_at "lay"
  rename_i t11 H11 s11 n11 e11
  have bkx : BookIs K Z.Book H11 (.ref x) dsk rs := (bk3.nls07 (NLs.gr07 (p2.same s3) (((g4.trans (Gr.of s5)).trans g6).trans (g7.trans (Gr.of s79))))).same (s10.trans s11)
  refine ⟨_, dsk, rs, rfl, bkx, good_txt7 gb, fun H12 s12 => ?_⟩
  refine len_dp (dpSame ((s10.trans s11).trans s12) r9) ⟨by decide +kernel, ?_⟩
  walk_at "lay"
  rename_i l13 H13 s13 n13 e13
  refine ⟨by decide +kernel, ?_⟩
  walk_at "lay"
  rename_i t14 H14 s14 n14 e14
  refine ⟨by decide +kernel, ?_⟩
  walk_at "lay"
  rename_i L HS s15 n15 e15
  have sS := ((((s10.trans s11).trans s12).trans s13).trans s14).trans s15
  have due0 : sameB dskN rsN dsk rs = sameB dskN rsN dsk rs := rfl
  have bkS := bkx.same (((s12.trans s13).trans s14).trans s15)
  have bkN := bkn.same (s9.trans sS)
  have aS := same_seqT sS a9
  have rS := dpSame sS r9
  have stS := same_seqT (s79.trans sS) st7
  have rNS := dpSame (s79.trans sS) (dp_nls k7 4 tpN rN)
  have offs : ∀ y ∈ [V.non, .ref ar, .ref a, .ref l10, .ref t11, .str (bookS dsk rs), .int (rs.length : Nat), .bl true, .ref l13, .ref t14, .str ""], OffV K y HS := by
    intro y m
    simp only [List.mem_cons, List.not_mem_nil, or_false] at m
    have ol : ∀ {l xs}, HS l = some (.lst xs) → OffV K (.ref l) HS := fun {l xs} e => .inr (.inr (.inr (.inr ⟨l, rfl, .inl ⟨xs, .inl (.inl e)⟩⟩)))
    have ot : ∀ {l xs}, SqT K HS l xs → OffV K (.ref l) HS := fun {l xs} e => .inr (.inr (.inr (.inr ⟨l, rfl, .inr ⟨xs, e⟩⟩)))
    rcases m with rfl | rfl | rfl | rfl | rfl | rfl | rfl | rfl | rfl | rfl | rfl
    · exact .inl rfl
    · exact ot (same_seqT sS sr)
    · exact ot aS
    · exact ol (((((s11.trans s12).trans s13).trans s14).trans s15) _ _ e10)
    · exact ot (.inl (.inl ((((s12.trans s13).trans s14).trans s15) _ _ e11)))
    · exact .inr (.inr (.inr (.inl ⟨_, rfl⟩)))
    · exact .inr (.inr (.inl ⟨_, rfl⟩))
    · exact .inr (.inl ⟨_, rfl⟩)
    · exact ol ((s14.trans s15) _ _ e13)
    · exact ot (.inl (.inl (s15 _ _ e14)))
    · exact .inr (.inr (.inr (.inl ⟨_, rfl⟩)))
  refine forR (n := 2) (by rw [sizeLine_eq]; decide) (fun i σ H' => (∃ u v, σ = [some (.ref p), some (.ref a), some (.ref ar), some (.ref x), some (.int way), some (.ref t), some bn, some (.bl (sameB dskN rsN dsk rs)), some (.ref L), u, v]) ∧ Same HS H') ⟨⟨_, _, rfl⟩, Same.refl _⟩ ?_ ?_
  · rintro i σ H16 hi ⟨⟨u, v, rfl⟩, s16⟩
    walk_at "rn"
    refine ⟨_, dsk, rs, _, _, rfl, bkS.same s16, .inl ⟨dskN, rsN, bkN.same s16, rfl⟩, fun H17 s17 => ⟨_, rfl, ?_⟩⟩
    rw [if_neg (by decide)]
    have s7 := s16.trans s17
    refine ⟨way, _, _, dsk, rs, rfl, w0, dp_strsT (same_seqT s7 aS), dpSame s7 rS, gb, fun b2 H18 s18 bk2 => ?_⟩
    have s8' := s7.trans s18
    refine ⟨_, dsk, rs, _, true, rfl, bkS.same s8', .inl ⟨dsk, rs, bk2, (sameB_refl gb).symm⟩, fun H19 s19 => ⟨_, rfl, ?_⟩⟩
    rw [if_neg (by decide)]
    have s9' := s8'.trans s19
    refine lc_l ?_
    walk_at "rn"
    refine lcLf (xs := [V.non, .ref ar, .ref a, .ref l10, .ref t11, .str (bookS dsk rs), .int (rs.length : Nat), .bl true, .ref l13, .ref t14, .str ""]) (fun H' k => .inl (.inl ((s9'.trans k) _ _ e15))) (by rw [sizeLine_eq]; simp) (fun _ => []) rfl (fun i => Nat.zero_le _) ?_ ?_
    · intro j y H20 N hy s20 nf nt
      have off := offs y (List.mem_of_getElem? hy)
      walk_at "rn"
      have s2' := s9'.trans s20
      refine ⟨_, dsk, rs, _, false, rfl, bkS.same s2', .inr ⟨off_same off s2', rfl⟩, fun H21 s21 => ⟨_, rfl, ?_⟩⟩
      exact nf H21 s21 rfl
    · intro D H20 nD s20 eD
      refine ⟨by decide +kernel, ?_⟩
      walk_at "lay"
      rename_i l21 H21 s21 n21 e21
      have s2' := (s9'.trans s20).trans s21
      refine ne_dl (.lst (.inl (.inl (s21 _ _ eD))) .nil) (.lst (.inl (.inl e21)) .nil) (n := 1) (fun _ m => nomatch m) (by decide) ⟨_, rfl, ?_⟩
      rw [if_neg (by decide)]
      exact ⟨⟨_, rfl⟩, s2'⟩
  · rintro σ H16 ⟨⟨u, v, rfl⟩, s16⟩
    walk_at "rn"
    obtain ⟨bn', dxn, vdn', vrn', rfl, hbn, _⟩ := id (bkN.same s16)
    obtain ⟨x', dxx, vdx, vrx, ex, hbx, _⟩ := id (bkS.same s16)
    cases ex
    refine ⟨_, _, hbx, rfl, _, dsk, rs, rfl, bkS.same s16, fun v4 hv4 => ?_⟩
    obtain ⟨av, _, rfl, _, _⟩ := dp_tup hv4
    refine eq_same hv4 (dpSame s16 rS) (n := 4) (fun e m => rule_lay (good_low gb) (good_all gb e m)) (by decide) ⟨_, rfl, ?_⟩
    rw [if_pos rfl]
    refine ⟨_, rfl, _, _, hbn, rfl, _, dskN, rsN, rfl, bkN.same s16, fun v5 hv5 => ?_⟩
    refine ix_t (same_seqT s16 stS) (atI_nat (j := 1) rfl) ?_
    obtain ⟨aw, _, rfl, _, _⟩ := dp_tup hv5
    exact eq_same hv5 (dpSame s16 rNS) (n := 4) (fun e m => rule_lay (good_low gN) (good_all gN e m)) (by decide) (q H16 (g1.trans (g2.trans (g29.trans (Gr.of (sS.trans s16))))))
def spTop (K : PySem.W.Frag) : Sp := fun vs H Q _ => ∃ a : Addr, ∃ ns : List Int, ns.length ≤ 63 ∧ vs = [V.ref a] ∧ SqL K H a (List.map V.int ns) ∧ ∀ H2, Q (.bl true) H2
end

set_option Elab.async false
set_option linter.all false
set_option maxRecDepth 100000
set_option maxHeartbeats 4000000
section
variable {P : Program} {w : World} {K : PySem.W.Frag} {mg : Str → Option Value} {base : Heap} {Z : Ad}
theorem few6 (n : Nat) : ∃ m : Nat, m ≤ 6 ∧ (if (if (n : Int) < 6 then (n : Int) else 6) > 1 then (if (n : Int) < 6 then (n : Int) else 6) else 1) = (m : Int) := by
  by_cases c : (n : Int) < 6
  · rw [if_pos c]
    by_cases d : (n : Int) > 1
    · exact ⟨n, by omega, if_pos d⟩
    · exact ⟨1, by omega, if_neg d⟩
  · rw [if_neg c]
    exact ⟨6, by omega, if_pos (by decide)⟩
theorem law_ok (T : TX P K mg Z) {f : Addr} {fd : FuncData} (hf : Fun K "law" "law" s_law f fd) : FnOk P w K mg base (L2.CX P w) 24 f fd ["script"] (spTop K) := by
  refine hf.okX sc_law (by rintro _ _ _ _ ⟨_, _, _, rfl, _⟩; rfl) fun cdv A outer s H vs Q E hr h => ?_
  obtain ⟨a, ns, hl, rfl, hs, q⟩ := h
  refine ⟨_, (pss_cons (ps_for (passes_of rfl) rfl (pi_range1 rfl T.b_range (pa_cons (pe_callB (call_max2 rfl) (by rfl) T.b_max (by decide +kernel) (pa_cons pe_int (pa_cons (pe_callB (call_min2 rfl) (by rfl) T.b_min (by decide +kernel) (pa_cons pe_int (pa_cons (pe_callB (kLen (K := K)) (by rfl) T.b_len PySem.boot_len (pa_cons (pv 0) pa_nil)) pa_nil))) pa_nil))) pa_nil)) (pg_name (i := 1) sc_law.nd rfl (by first | exact Or.inl rfl | exact Or.inr rfl)) (pss_one (ps_if (pt_not (pt_val (pe_callD (d__law_right T) hr rfl passL (pa_cons (pe_callD (d__law_pot T) hr rfl passL (pa_cons (pv 0) (pa_cons (pv 1) pa_nil))) pa_nil)))) (pss_one (ps_ret pe_bl)) pss_nil))) (pss_one (ps_ret pe_bl))), ?_⟩
  walk_at "rn"
  refine len_l hs ?_
  walk_at "rn"
  rw [List.length_map]
  obtain ⟨m, hm, em⟩ := few6 ns.length
  rw [em]
  refine forR (by rw [sizeLine_eq]; omega) (fun i σ H' => (∃ u, σ = [some (.ref a), u]) ∧ Same H H') ⟨⟨_, rfl⟩, Same.refl H⟩ ?_ ?_
  · rintro i σ H2 hi ⟨⟨u, rfl⟩, s2⟩
    walk_at "rn"
    refine ⟨a, ns, i, rfl, s2.seq hs, by omega, fun p H3 s3 n3 p3 => ⟨p, rfl, p3, fun H4 g4 => ⟨_, rfl, ?_⟩⟩⟩
    rw [if_neg (show ¬ (!true) = true by decide)]
    exact ⟨⟨_, rfl⟩, fun b o e => g4.keep b o (ne_of_none (s2 _ _ e) n3) (s3 _ _ (s2 _ _ e))⟩
  · rintro σ H2 ⟨⟨u, rfl⟩, s2⟩
    exact q H2
theorem law_top {l : PySem.W.OpenLaw} {w : World} {mg : Str → Option Value} {fa : Addr} (T : TX l.prog K mg Z) (hmg : mg "law" = some (.ref fa)) :
    ∃ fd : FuncData, (∀ (s : Shared) (u : Value), BindsTo s fd { pos := [u] } [("script", u)]) ∧ ∀ base : Heap, K.In base → base.Ns mainGlobals mg → FnOk l.prog w K mg base (L2.CX l.prog w) 24 fa fd ["script"] (spTop K) := by
  obtain ⟨f, fd, hm, hf, _⟩ := T.f_law.ex
  have e := hmg.symm.trans hm
  cases e
  refine ⟨fd, fun s u => ?_, fun base _ _ => law_ok T hf⟩
  obtain ⟨oc, od, kV, doc, pm, an, cdv, ct, osl, e, _⟩ := hf.ex
  subst e
  exact .of_eq rfl
end
theorem walk_law {l : PySem.W.OpenLaw} {q : Program} {loose : List Str} {XP : (Str → Option Value) → Heap → Prop} {YP : World → Heap → Prop} {d : DefRec} {K : Params → PySem.W.Frag} (hn : l.most = some 63) (hdf : d.params.defaults = []) (hnm : d.name = "law")
    (hY : ∀ (w : World) (h : Heap), YP w h → (K w.params).In h)
    (F : ∀ (w : World) (mg : Str → Option Value) (h : Heap), (K w.params).In h → h.Ns mainGlobals mg → ∃ Z, TX l.prog (K w.params) mg Z) : PySem.W.WalkO q loose XP YP l.row.toRowW d [] (fun f vs => PySem.call f vs) :=
  L2.walk_of (n := 63) (k := 24) (x := "script") (CX := fun w => L2.CX l.prog w) (sp := fun w => spTop (K w.params)) hn (by decide) hdf ⟨rfl, by decide, by decide⟩ hY
    (fun w mg fa h KX G hmg => by
      obtain ⟨Z, T⟩ := F w mg h KX G
      rw [hnm] at hmg
      exact law_top T hmg)
    (fun _ _ a ns hl _ hS => ⟨a, ns, hl, rfl, hS, fun _ => rfl⟩) fun _ _ _ _ _ z => by
      obtain ⟨_, _, _, _, _, _, _, _, _, _, _, _, z⟩ := z
      exact z

set_option Elab.async false
set_option linter.all false
set_option maxRecDepth 100000
set_option maxHeartbeats 4000000
theorem tx_mk {P : Program} {K : PySem.W.Frag} {h : Heap} {mg : Str → Option Value} {z_DeskError z_NoDesks z_NoRule z_Book z_STATUSES z_EVENTS z_TEST_FORMS z_ACTION_FORMS z_NoRule_init : Addr} {t_LETTERS : Tok} {t_LONGEST_NAME : Tok} {t_MOST_DESKS : Tok} {t_MOST_TESTS : Tok} {t_MOST_ACTIONS : Tok} {t_MOST_DAYS : Tok} {t_MOST_RULES : Tok} {nm_NoRule q_NoRule : Str} {N_NoRule : Addr} {bs_NoRule bm_NoRule : List Value} {sn_NoRule : List Str} {sub_NoRule : List Value} {ab_NoRule : Bool} {col_NoRule : Option Bool} {dd_NoRule : Option Addr} {k0_NoRule k1_NoRule k2_NoRule k3_NoRule k5_NoRule : Option Value} {oc_NoRule : Value} {od_NoRule : Option Addr} {doc_NoRule pm_NoRule : Value} {an_NoRule : Option Addr} {cda_NoRule cc_NoRule : Addr} {ct_NoRule : Value} {osl_NoRule : Array (Option Value)} {ccl_NoRule cl_NoRule : Value} {cdd_NoRule cld_NoRule : Option Addr} {vs_NoRule : Array Value} {ccs_NoRule csl_NoRule : Array (Option Value)} {file_NoRule : Str} {tf_NoRule : Tok} {f1 : Addr} {od1 an1 : Option Addr} {sl1 : Array (Option Value)} {oc1 kV1 dc1 pm1 cd1 ct1 : Value} {f2 : Addr} {od2 an2 : Option Addr} {sl2 : Array (Option Value)} {oc2 kV2 dc2 pm2 cd2 ct2 : Value} {f3 : Addr} {od3 an3 : Option Addr} {sl3 : Array (Option Value)} {oc3 kV3 dc3 pm3 cd3 ct3 : Value} {f4 : Addr} {od4 an4 : Option Addr} {sl4 : Array (Option Value)} {oc4 kV4 dc4 pm4 cd4 ct4 : Value} {f5 : Addr} {od5 an5 : Option Addr} {sl5 : Array (Option Value)} {oc5 kV5 dc5 pm5 cd5 ct5 : Value} {f6 : Addr} {od6 an6 : Option Addr} {sl6 : Array (Option Value)} {oc6 kV6 dc6 pm6 cd6 ct6 : Value} {f7 : Addr} {od7 an7 : Option Addr} {sl7 : Array (Option Value)} {oc7 kV7 dc7 pm7 cd7 ct7 : Value} {f8 : Addr} {od8 an8 : Option Addr} {sl8 : Array (Option Value)} {oc8 kV8 dc8 pm8 cd8 ct8 : Value} {f9 : Addr} {od9 an9 : Option Addr} {sl9 : Array (Option Value)} {oc9 kV9 dc9 pm9 cd9 ct9 : Value} {f10 : Addr} {od10 an10 : Option Addr} {sl10 : Array (Option Value)} {oc10 kV10 dc10 pm10 cd10 ct10 : Value} {f11 : Addr} {od11 an11 : Option Addr} {sl11 : Array (Option Value)} {oc11 kV11 dc11 pm11 cd11 ct11 : Value} {f12 : Addr} {od12 an12 : Option Addr} {sl12 : Array (Option Value)} {oc12 kV12 dc12 pm12 cd12 ct12 : Value} {f13 : Addr} {od13 an13 : Option Addr} {sl13 : Array (Option Value)} {oc13 kV13 dc13 pm13 cd13 ct13 : Value} {f14 : Addr} {od14 an14 : Option Addr} {sl14 : Array (Option Value)} {oc14 kV14 dc14 pm14 cd14 ct14 : Value} {f15 : Addr} {od15 an15 : Option Addr} {sl15 : Array (Option Value)} {oc15 kV15 dc15 pm15 cd15 ct15 : Value} {f16 : Addr} {od16 an16 : Option Addr} {sl16 : Array (Option Value)} {oc16 kV16 dc16 pm16 cd16 ct16 : Value} {f17 : Addr} {od17 an17 : Option Addr} {sl17 : Array (Option Value)} {oc17 kV17 dc17 pm17 cd17 ct17 : Value} {f18 : Addr} {od18 an18 : Option Addr} {sl18 : Array (Option Value)} {oc18 kV18 dc18 pm18 cd18 ct18 : Value} {f19 : Addr} {od19 an19 : Option Addr} {sl19 : Array (Option Value)} {oc19 kV19 dc19 pm19 cd19 ct19 : Value} {f20 : Addr} {od20 an20 : Option Addr} {sl20 : Array (Option Value)} {oc20 kV20 dc20 pm20 cd20 ct20 : Value} {f21 : Addr} {od21 an21 : Option Addr} {sl21 : Array (Option Value)} {oc21 kV21 dc21 pm21 cd21 ct21 : Value} {f22 : Addr} {od22 an22 : Option Addr} {sl22 : Array (Option Value)} {oc22 kV22 dc22 pm22 cd22 ct22 : Value} {f23 : Addr} {od23 an23 : Option Addr} {sl23 : Array (Option Value)} {oc23 kV23 dc23 pm23 cd23 ct23 : Value} {f24 : Addr} {od24 an24 : Option Addr} {sl24 : Array (Option Value)} {oc24 kV24 dc24 pm24 cd24 ct24 : Value} {f25 : Addr} {od25 an25 : Option Addr} {sl25 : Array (Option Value)} {oc25 kV25 dc25 pm25 cd25 ct25 : Value} {f26 : Addr} {od26 an26 : Option Addr} {sl26 : Array (Option Value)} {oc26 kV26 dc26 pm26 cd26 ct26 : Value} {f27 : Addr} {od27 an27 : Option Addr} {sl27 : Array (Option Value)} {oc27 kV27 dc27 pm27 cd27 ct27 : Value} {f28 : Addr} {od28 an28 : Option Addr} {sl28 : Array (Option Value)} {oc28 kV28 dc28 pm28 cd28 ct28 : Value} {f29 : Addr} {od29 an29 : Option Addr} {sl29 : Array (Option Value)} {oc29 kV29 dc29 pm29 cd29 ct29 : Value} {f30 : Addr} {od30 an30 : Option Addr} {sl30 : Array (Option Value)} {oc30 kV30 dc30 pm30 cd30 ct30 : Value} {f31 : Addr} {od31 an31 : Option Addr} {sl31 : Array (Option Value)} {oc31 kV31 dc31 pm31 cd31 ct31 : Value} {f32 : Addr} {od32 an32 : Option Addr} {sl32 : Array (Option Value)} {oc32 kV32 dc32 pm32 cd32 ct32 : Value} {f33 : Addr} {od33 an33 : Option Addr} {sl33 : Array (Option Value)} {oc33 kV33 dc33 pm33 cd33 ct33 : Value} {f34 : Addr} {od34 an34 : Option Addr} {sl34 : Array (Option Value)} {oc34 kV34 dc34 pm34 cd34 ct34 : Value} {f35 : Addr} {od35 an35 : Option Addr} {sl35 : Array (Option Value)} {oc35 kV35 dc35 pm35 cd35 ct35 : Value} {f36 : Addr} {od36 an36 : Option Addr} {sl36 : Array (Option Value)} {oc36 kV36 dc36 pm36 cd36 ct36 : Value} {f37 : Addr} {od37 an37 : Option Addr} {sl37 : Array (Option Value)} {oc37 kV37 dc37 pm37 cd37 ct37 : Value} {f38 : Addr} {od38 an38 : Option Addr} {sl38 : Array (Option Value)} {oc38 kV38 dc38 pm38 cd38 ct38 : Value} {f39 : Addr} {od39 an39 : Option Addr} {sl39 : Array (Option Value)} {oc39 kV39 dc39 pm39 cd39 ct39 : Value} {f40 : Addr} {od40 an40 : Option Addr} {sl40 : Array (Option Value)} {oc40 kV40 dc40 pm40 cd40 ct40 : Value} (X : K.In h) (G : h.Ns mainGlobals mg)
    (b_abs : PySem.W.nsIn K mainGlobals "abs" = some none)
    (b_all : PySem.W.nsIn K mainGlobals "all" = some none)
    (b_bool : PySem.W.nsIn K mainGlobals "bool" = some none)
    (b_enumerate : PySem.W.nsIn K mainGlobals "enumerate" = some none)
    (b_int : PySem.W.nsIn K mainGlobals "int" = some none)
    (b_isinstance : PySem.W.nsIn K mainGlobals "isinstance" = some none)
    (b_len : PySem.W.nsIn K mainGlobals "len" = some none)
    (b_list : PySem.W.nsIn K mainGlobals "list" = some none)
    (b_max : PySem.W.nsIn K mainGlobals "max" = some none)
    (b_min : PySem.W.nsIn K mainGlobals "min" = some none)
    (b_range : PySem.W.nsIn K mainGlobals "range" = some none)
    (b_set : PySem.W.nsIn K mainGlobals "set" = some none)
    (b_str : PySem.W.nsIn K mainGlobals "str" = some none)
    (b_super : PySem.W.nsIn K mainGlobals "super" = some none)
    (b_tuple : PySem.W.nsIn K mainGlobals "tuple" = some none)
    (b_zip : PySem.W.nsIn K mainGlobals "zip" = some none)
    (g_LETTERS : PySem.W.nsIn K mainGlobals "LETTERS" = some (some (.str "abcdefghijklmnopqrstuvwxyz" t_LETTERS)))
    (g_LONGEST_NAME : PySem.W.nsIn K mainGlobals "LONGEST_NAME" = some (some (.int 8 t_LONGEST_NAME)))
    (g_MOST_DESKS : PySem.W.nsIn K mainGlobals "MOST_DESKS" = some (some (.int 4 t_MOST_DESKS)))
    (g_MOST_TESTS : PySem.W.nsIn K mainGlobals "MOST_TESTS" = some (some (.int 4 t_MOST_TESTS)))
    (g_MOST_ACTIONS : PySem.W.nsIn K mainGlobals "MOST_ACTIONS" = some (some (.int 4 t_MOST_ACTIONS)))
    (g_MOST_DAYS : PySem.W.nsIn K mainGlobals "MOST_DAYS" = some (some (.int 30 t_MOST_DAYS)))
    (g_STATUSES : PySem.W.nsIn K mainGlobals "STATUSES" = some (some (.ref z_STATUSES)))
    (v_STATUSES : denK K 4 (.ref z_STATUSES) = some (.tuple [.str "new", .str "open", .str "waiting", .str "closed"]))
    (g_EVENTS : PySem.W.nsIn K mainGlobals "EVENTS" = some (some (.ref z_EVENTS)))
    (v_EVENTS : denK K 4 (.ref z_EVENTS) = some (.tuple [.str "letter", .str "answer", .str "day", .str "moved", .str "status", .str "replied"]))
    (g_TEST_FORMS : PySem.W.nsIn K mainGlobals "TEST_FORMS" = some (some (.ref z_TEST_FORMS)))
    (v_TEST_FORMS : denK K 4 (.ref z_TEST_FORMS) = some (.tuple [.tuple [.str "status", .str "status", .str "wanted"], .tuple [.str "desk", .str "desk", .str "wanted"], .tuple [.str "answered", .str "wanted"], .tuple [.str "marked", .str "wanted"], .tuple [.str "days", .str "days"]]))
    (g_ACTION_FORMS : PySem.W.nsIn K mainGlobals "ACTION_FORMS" = some (some (.ref z_ACTION_FORMS)))
    (v_ACTION_FORMS : denK K 4 (.ref z_ACTION_FORMS) = some (.tuple [.tuple [.str "status", .str "status"], .tuple [.str "desk", .str "desk"], .tuple [.str "reply"], .tuple [.str "mark", .str "wanted"], .tuple [.str "stop"]]))
    (g_MOST_RULES : PySem.W.nsIn K mainGlobals "MOST_RULES" = some (some (.int 8 t_MOST_RULES)))
    (c_DeskError : PySem.W.nsIn K mainGlobals "DeskError" = some (some (.ref z_DeskError)))
    (c_NoDesks : PySem.W.nsIn K mainGlobals "NoDesks" = some (some (.ref z_NoDesks)))
    (c_NoRule : PySem.W.nsIn K mainGlobals "NoRule" = some (some (.ref z_NoRule)))
    (c_Book : PySem.W.nsIn K mainGlobals "Book" = some (some (.ref z_Book)))
    (tg_class : PySem.W.specialIn K (.builtin "object.__class__") "__get__" = some (some (.builtin "getset_descriptor.__get__")))
    (tt_class : PySem.W.takesIn K (.builtin "object.__class__") = some true)
    (pg_Book : PySem.W.plainGet K z_Book Str.empty = true)
    (hd_Book : PySem.W.hasDictIn K z_Book = true)
    (po_Book : PySem.W.plainOver K z_Book = true)
    (sa_Book : PySem.W.findIn K (.ref z_Book) "__setattr__" = some (some (.builtin "object.__setattr__")))
    (sf_Book : PySem.W.selfFirst K z_Book = true)
    (nf_Book : PySem.W.notFirst K z_Book (.ref z_Book) = true)
    (ty_Book : PySem.W.findIn K (.ref z_Book) "__class__" = some (some (.builtin "object.__class__")))
    (mo_Book : PySem.W.mroIn K z_Book (.type "object") = some true)
    (mf_Book_NoneType : PySem.W.mroIn K z_Book (.type "NoneType") = some false)
    (kf_Book_NoneType : PySem.W.kitOne K (.type "NoneType") (.ref z_Book) = some false)
    (mf_Book_bool : PySem.W.mroIn K z_Book (.type "bool") = some false)
    (kf_Book_bool : PySem.W.kitOne K (.type "bool") (.ref z_Book) = some false)
    (mf_Book_int : PySem.W.mroIn K z_Book (.type "int") = some false)
    (kf_Book_int : PySem.W.kitOne K (.type "int") (.ref z_Book) = some false)
    (mf_Book_str : PySem.W.mroIn K z_Book (.type "str") = some false)
    (kf_Book_str : PySem.W.kitOne K (.type "str") (.ref z_Book) = some false)
    (mf_Book_list : PySem.W.mroIn K z_Book (.type "list") = some false)
    (kf_Book_list : PySem.W.kitOne K (.type "list") (.ref z_Book) = some false)
    (mf_Book_tuple : PySem.W.mroIn K z_Book (.type "tuple") = some false)
    (kf_Book_tuple : PySem.W.kitOne K (.type "tuple") (.ref z_Book) = some false)
    (ne_Book : PySem.W.findIn K (.ref z_Book) "__ne__" = some (some (.builtin "object.__ne__")))
    (na_Book__desks : PySem.W.findIn K (.ref z_Book) "_desks" = some none)
    (na_Book__rules : PySem.W.findIn K (.ref z_Book) "_rules" = some none)
    (xm_DeskError : PySem.W.exmOne K (.ref z_DeskError) (.ref z_DeskError) = some true)
    (xq_DeskError : PySem.W.excIn K z_DeskError PySem.HandSPX.veTail "ValueError.__new__" = true)
    (xk_DeskError : PySem.W.keepIn K (.ref z_DeskError) = true)
    (xe_DeskError : PySem.W.subIn K (.ref z_DeskError) (.type "BaseException") = some true)
    (xt_DeskError : PySem.W.typeIn K (.ref z_DeskError) = some (.type "type"))
    (xm_NoDesks : PySem.W.exmOne K (.ref z_NoDesks) (.ref z_NoDesks) = some true)
    (xq_NoDesks : PySem.W.excIn K z_NoDesks PySem.HandSPX.veTail "ValueError.__new__" = true)
    (xk_NoDesks : PySem.W.keepIn K (.ref z_NoDesks) = true)
    (xe_NoDesks : PySem.W.subIn K (.ref z_NoDesks) (.type "BaseException") = some true)
    (xt_NoDesks : PySem.W.typeIn K (.ref z_NoDesks) = some (.type "type"))
    (xm_NoRule : PySem.W.exmOne K (.ref z_NoRule) (.ref z_NoRule) = some true)
    (xc_NoRule : K.lookup z_NoRule = some (excClassObj nm_NoRule q_NoRule z_NoRule N_NoRule bs_NoRule bm_NoRule true sn_NoRule sub_NoRule ab_NoRule col_NoRule dd_NoRule k0_NoRule k1_NoRule k2_NoRule k3_NoRule k5_NoRule "ValueError.__new__"))
    (xr_NoRule : PySem.HandSPX.refsVE bm_NoRule = true)
    (xinI_NoRule : PySem.W.excInitIn K z_NoRule PySem.HandSPX.veTail "ValueError.__new__" = true)
    (xsa_NoRule : PySem.W.findIn K (.ref z_NoRule) "__setattr__" = some (some (.builtin "object.__setattr__")))
    (xga_NoRule : PySem.W.findIn K (.ref z_NoRule) "__getattribute__" = some (some (.builtin "BaseException.__getattribute__")))
    (xgg_NoRule : PySem.W.findIn K (.ref z_NoRule) "__getattr__" = some none)
    (xnoN_NoRule : PySem.W.findIn K (.ref z_NoRule) "index" = some none)
    (xiC_NoRule : PySem.W.findIn K (.ref z_NoRule) "__init__" = some (some (.ref z_NoRule_init)))
    (xtC_NoRule : PySem.W.typeIn K (.ref z_NoRule_init) = some (.type "function"))
    (xkC_NoRule : PySem.W.keepIn K (.ref z_NoRule) = true)
    (xexC_NoRule : PySem.W.subIn K (.ref z_NoRule) (.type "BaseException") = some true)
    (xexV_NoRule : PySem.W.subIn K (.ref z_NoRule) (.type "ValueError") = some true)
    (xtyC_NoRule : PySem.W.typeIn K (.ref z_NoRule) = some (.type "type"))
    (xhdC_NoRule : PySem.W.hasDictIn K z_NoRule = true)
    (xmro_NoRule : PySem.W.mroIn K z_NoRule (.ref z_NoRule) = some true)
    (xabove_NoRule : PySem.W.ks_superIn K z_NoRule z_NoRule "__init__" = some (some (.builtin "ValueError.__init__")))
    (xf_NoRule : K.lookup z_NoRule_init = some ⟨oc_NoRule, od_NoRule, .func (PySem.W.ksFn "__init__" "NoRule.__init__" (LowIndex.tA ⟨8, 17, 8, 21⟩ ⟨8, 23, 8, 28⟩) (LowIndex.tB "there is no such rule" ⟨9, 8, 9, 13⟩ ⟨9, 8, 9, 15⟩ ⟨9, 8, 9, 24⟩ ⟨9, 25, 9, 48⟩ ⟨9, 8, 9, 49⟩ ⟨9, 8, 9, 49⟩ ⟨10, 8, 10, 12⟩ ⟨10, 8, 10, 18⟩ ⟨10, 21, 10, 26⟩ ⟨10, 8, 10, 26⟩) LowIndex.tS .none .none doc_NoRule pm_NoRule an_NoRule (.ref cda_NoRule) ct_NoRule cc_NoRule), osl_NoRule⟩)
    (xd_NoRule : PySem.W.codeIn K (.ref cda_NoRule) "NoRule.__init__" = true)
    (xa_NoRule : K.lookup cda_NoRule = some ⟨ccl_NoRule, cdd_NoRule, .fields vs_NoRule, ccs_NoRule⟩)
    (xv_NoRule : vs_NoRule[2]? = some (.str file_NoRule tf_NoRule))
    (xw_NoRule : ((P.main.file : Str) == file_NoRule) = true)
    (xx_NoRule : K.lookup cc_NoRule = some ⟨cl_NoRule, cld_NoRule, .cell (some (.ref z_NoRule)), csl_NoRule⟩)
    (opq : PySem.W.nsIn K cStatics "thirdparty.any" = some none)
    (htop : (P.main.scope.names.lookup ("super" : Str)).isSome = false)
    (fa1 : PySem.W.nsIn K mainGlobals "is_whole" = some (some (.ref f1)))
    (fl1 : K.lookup f1 = some ⟨oc1, od1, .func (PySem.W.fnOf "is_whole" "is_whole" (defArgs s_is_whole) (defBody s_is_whole) (defScope s_is_whole) .none kV1 dc1 pm1 an1 cd1 ct1), sl1⟩)
    (fc1 : PySem.W.codeIn K cd1 "is_whole" = true)
    (fk1 : PySem.W.keepIn K (.ref f1) = true)
    (fa2 : PySem.W.nsIn K mainGlobals "is_name" = some (some (.ref f2)))
    (fl2 : K.lookup f2 = some ⟨oc2, od2, .func (PySem.W.fnOf "is_name" "is_name" (defArgs s_is_name) (defBody s_is_name) (defScope s_is_name) .none kV2 dc2 pm2 an2 cd2 ct2), sl2⟩)
    (fc2 : PySem.W.codeIn K cd2 "is_name" = true)
    (fk2 : PySem.W.keepIn K (.ref f2) = true)
    (fa3 : PySem.W.nsIn K mainGlobals "are_desks" = some (some (.ref f3)))
    (fl3 : K.lookup f3 = some ⟨oc3, od3, .func (PySem.W.fnOf "are_desks" "are_desks" (defArgs s_are_desks) (defBody s_are_desks) (defScope s_are_desks) .none kV3 dc3 pm3 an3 cd3 ct3), sl3⟩)
    (fc3 : PySem.W.codeIn K cd3 "are_desks" = true)
    (fk3 : PySem.W.keepIn K (.ref f3) = true)
    (fa4 : PySem.W.nsIn K mainGlobals "is_rule" = some (some (.ref f4)))
    (fl4 : K.lookup f4 = some ⟨oc4, od4, .func (PySem.W.fnOf "is_rule" "is_rule" (defArgs s_is_rule) (defBody s_is_rule) (defScope s_is_rule) .none kV4 dc4 pm4 an4 cd4 ct4), sl4⟩)
    (fc4 : PySem.W.codeIn K cd4 "is_rule" = true)
    (fk4 : PySem.W.keepIn K (.ref f4) = true)
    (fa5 : PySem.W.nsIn K mainGlobals "is_index" = some (some (.ref f5)))
    (fl5 : K.lookup f5 = some ⟨oc5, od5, .func (PySem.W.fnOf "is_index" "is_index" (defArgs s_is_index) (defBody s_is_index) (defScope s_is_index) .none kV5 dc5 pm5 an5 cd5 ct5), sl5⟩)
    (fc5 : PySem.W.codeIn K cd5 "is_index" = true)
    (fk5 : PySem.W.keepIn K (.ref f5) = true)
    (fa6 : PySem.W.nsIn K mainGlobals "is_word" = some (some (.ref f6)))
    (fl6 : K.lookup f6 = some ⟨oc6, od6, .func (PySem.W.fnOf "is_word" "is_word" (defArgs s_is_word) (defBody s_is_word) (defScope s_is_word) .none kV6 dc6 pm6 an6 cd6 ct6), sl6⟩)
    (fc6 : PySem.W.codeIn K cd6 "is_word" = true)
    (fk6 : PySem.W.keepIn K (.ref f6) = true)
    (fa7 : PySem.W.nsIn K mainGlobals "_has_form" = some (some (.ref f7)))
    (fl7 : K.lookup f7 = some ⟨oc7, od7, .func (PySem.W.fnOf "_has_form" "_has_form" (defArgs s__has_form) (defBody s__has_form) (defScope s__has_form) .none kV7 dc7 pm7 an7 cd7 ct7), sl7⟩)
    (fc7 : PySem.W.codeIn K cd7 "_has_form" = true)
    (fk7 : PySem.W.keepIn K (.ref f7) = true)
    (fa8 : PySem.W.nsIn K mainGlobals "_fits" = some (some (.ref f8)))
    (fl8 : K.lookup f8 = some ⟨oc8, od8, .func (PySem.W.fnOf "_fits" "_fits" (defArgs s__fits) (defBody s__fits) (defScope s__fits) .none kV8 dc8 pm8 an8 cd8 ct8), sl8⟩)
    (fc8 : PySem.W.codeIn K cd8 "_fits" = true)
    (fk8 : PySem.W.keepIn K (.ref f8) = true)
    (fa9 : PySem.W.findIn K (.ref z_Book) "__init__" = some (some (.ref f9)))
    (fi9 : PySem.W.isFn K (.ref f9) = true)
    (fl9 : K.lookup f9 = some ⟨oc9, od9, .func (PySem.W.fnOf "__init__" "Book.__init__" (defArgs s_Book_init) (defBody s_Book_init) (defScope s_Book_init) .none kV9 dc9 pm9 an9 cd9 ct9), sl9⟩)
    (fc9 : PySem.W.codeIn K cd9 "Book.__init__" = true)
    (fk9 : PySem.W.keepIn K (.ref f9) = true)
    (mk_Book : PySem.W.makesIn K z_Book = true)
    (kc_Book : PySem.W.keepIn K (.ref z_Book) = true)
    (fa10 : PySem.W.findIn K (.ref z_Book) "desks" = some (some (.ref f10)))
    (fi10 : PySem.W.isFn K (.ref f10) = true)
    (fl10 : K.lookup f10 = some ⟨oc10, od10, .func (PySem.W.fnOf "desks" "Book.desks" (defArgs s_Book_desks) (defBody s_Book_desks) (defScope s_Book_desks) .none kV10 dc10 pm10 an10 cd10 ct10), sl10⟩)
    (fc10 : PySem.W.codeIn K cd10 "Book.desks" = true)
    (fk10 : PySem.W.keepIn K (.ref f10) = true)
    (fa11 : PySem.W.findIn K (.ref z_Book) "rules" = some (some (.ref f11)))
    (fi11 : PySem.W.isFn K (.ref f11) = true)
    (fl11 : K.lookup f11 = some ⟨oc11, od11, .func (PySem.W.fnOf "rules" "Book.rules" (defArgs s_Book_rules) (defBody s_Book_rules) (defScope s_Book_rules) .none kV11 dc11 pm11 an11 cd11 ct11), sl11⟩)
    (fc11 : PySem.W.codeIn K cd11 "Book.rules" = true)
    (fk11 : PySem.W.keepIn K (.ref f11) = true)
    (fa12 : PySem.W.findIn K (.ref z_Book) "__len__" = some (some (.ref f12)))
    (fi12 : PySem.W.isFn K (.ref f12) = true)
    (fl12 : K.lookup f12 = some ⟨oc12, od12, .func (PySem.W.fnOf "__len__" "Book.__len__" (defArgs s_Book_len) (defBody s_Book_len) (defScope s_Book_len) .none kV12 dc12 pm12 an12 cd12 ct12), sl12⟩)
    (fc12 : PySem.W.codeIn K cd12 "Book.__len__" = true)
    (fk12 : PySem.W.keepIn K (.ref f12) = true)
    (fa13 : PySem.W.findIn K (.ref z_Book) "__getitem__" = some (some (.ref f13)))
    (fi13 : PySem.W.isFn K (.ref f13) = true)
    (fl13 : K.lookup f13 = some ⟨oc13, od13, .func (PySem.W.fnOf "__getitem__" "Book.__getitem__" (defArgs s_Book_getitem) (defBody s_Book_getitem) (defScope s_Book_getitem) .none kV13 dc13 pm13 an13 cd13 ct13), sl13⟩)
    (fc13 : PySem.W.codeIn K cd13 "Book.__getitem__" = true)
    (fk13 : PySem.W.keepIn K (.ref f13) = true)
    (fa14 : PySem.W.findIn K (.ref z_Book) "__iter__" = some (some (.ref f14)))
    (fi14 : PySem.W.isFn K (.ref f14) = true)
    (fl14 : K.lookup f14 = some ⟨oc14, od14, .func (PySem.W.fnOf "__iter__" "Book.__iter__" (defArgs s_Book_iter) (defBody s_Book_iter) (defScope s_Book_iter) .none kV14 dc14 pm14 an14 cd14 ct14), sl14⟩)
    (fc14 : PySem.W.codeIn K cd14 "Book.__iter__" = true)
    (fk14 : PySem.W.keepIn K (.ref f14) = true)
    (fa15 : PySem.W.findIn K (.ref z_Book) "__eq__" = some (some (.ref f15)))
    (fi15 : PySem.W.isFn K (.ref f15) = true)
    (fl15 : K.lookup f15 = some ⟨oc15, od15, .func (PySem.W.fnOf "__eq__" "Book.__eq__" (defArgs s_Book_eq) (defBody s_Book_eq) (defScope s_Book_eq) .none kV15 dc15 pm15 an15 cd15 ct15), sl15⟩)
    (fc15 : PySem.W.codeIn K cd15 "Book.__eq__" = true)
    (fk15 : PySem.W.keepIn K (.ref f15) = true)
    (fa16 : PySem.W.findIn K (.ref z_Book) "__add__" = some (some (.ref f16)))
    (fi16 : PySem.W.isFn K (.ref f16) = true)
    (fl16 : K.lookup f16 = some ⟨oc16, od16, .func (PySem.W.fnOf "__add__" "Book.__add__" (defArgs s_Book_add) (defBody s_Book_add) (defScope s_Book_add) .none kV16 dc16 pm16 an16 cd16 ct16), sl16⟩)
    (fc16 : PySem.W.codeIn K cd16 "Book.__add__" = true)
    (fk16 : PySem.W.keepIn K (.ref f16) = true)
    (fa17 : PySem.W.findIn K (.ref z_Book) "without" = some (some (.ref f17)))
    (fi17 : PySem.W.isFn K (.ref f17) = true)
    (fl17 : K.lookup f17 = some ⟨oc17, od17, .func (PySem.W.fnOf "without" "Book.without" (defArgs s_Book_without) (defBody s_Book_without) (defScope s_Book_without) .none kV17 dc17 pm17 an17 cd17 ct17), sl17⟩)
    (fc17 : PySem.W.codeIn K cd17 "Book.without" = true)
    (fk17 : PySem.W.keepIn K (.ref f17) = true)
    (fa18 : PySem.W.findIn K (.ref z_Book) "exchanged" = some (some (.ref f18)))
    (fi18 : PySem.W.isFn K (.ref f18) = true)
    (fl18 : K.lookup f18 = some ⟨oc18, od18, .func (PySem.W.fnOf "exchanged" "Book.exchanged" (defArgs s_Book_exchanged) (defBody s_Book_exchanged) (defScope s_Book_exchanged) .none kV18 dc18 pm18 an18 cd18 ct18), sl18⟩)
    (fc18 : PySem.W.codeIn K cd18 "Book.exchanged" = true)
    (fk18 : PySem.W.keepIn K (.ref f18) = true)
    (fa19 : PySem.W.findIn K (.ref z_Book) "_has" = some (some (.ref f19)))
    (fi19 : PySem.W.isFn K (.ref f19) = true)
    (fl19 : K.lookup f19 = some ⟨oc19, od19, .func (PySem.W.fnOf "_has" "Book._has" (defArgs s_Book__has) (defBody s_Book__has) (defScope s_Book__has) .none kV19 dc19 pm19 an19 cd19 ct19), sl19⟩)
    (fc19 : PySem.W.codeIn K cd19 "Book._has" = true)
    (fk19 : PySem.W.keepIn K (.ref f19) = true)
    (fa20 : PySem.W.nsIn K mainGlobals "book_text" = some (some (.ref f20)))
    (fl20 : K.lookup f20 = some ⟨oc20, od20, .func (PySem.W.fnOf "book_text" "book_text" (defArgs s_book_text) (defBody s_book_text) (defScope s_book_text) .none kV20 dc20 pm20 an20 cd20 ct20), sl20⟩)
    (fc20 : PySem.W.codeIn K cd20 "book_text" = true)
    (fk20 : PySem.W.keepIn K (.ref f20) = true)
    (fa21 : PySem.W.nsIn K mainGlobals "_rule_text" = some (some (.ref f21)))
    (fl21 : K.lookup f21 = some ⟨oc21, od21, .func (PySem.W.fnOf "_rule_text" "_rule_text" (defArgs s__rule_text) (defBody s__rule_text) (defScope s__rule_text) .none kV21 dc21 pm21 an21 cd21 ct21), sl21⟩)
    (fc21 : PySem.W.codeIn K cd21 "_rule_text" = true)
    (fk21 : PySem.W.keepIn K (.ref f21) = true)
    (fa22 : PySem.W.nsIn K mainGlobals "_test_text" = some (some (.ref f22)))
    (fl22 : K.lookup f22 = some ⟨oc22, od22, .func (PySem.W.fnOf "_test_text" "_test_text" (defArgs s__test_text) (defBody s__test_text) (defScope s__test_text) .none kV22 dc22 pm22 an22 cd22 ct22), sl22⟩)
    (fc22 : PySem.W.codeIn K cd22 "_test_text" = true)
    (fk22 : PySem.W.keepIn K (.ref f22) = true)
    (fa23 : PySem.W.nsIn K mainGlobals "_action_text" = some (some (.ref f23)))
    (fl23 : K.lookup f23 = some ⟨oc23, od23, .func (PySem.W.fnOf "_action_text" "_action_text" (defArgs s__action_text) (defBody s__action_text) (defScope s__action_text) .none kV23 dc23 pm23 an23 cd23 ct23), sl23⟩)
    (fc23 : PySem.W.codeIn K cd23 "_action_text" = true)
    (fk23 : PySem.W.keepIn K (.ref f23) = true)
    (fa24 : PySem.W.nsIn K mainGlobals "_law_pot" = some (some (.ref f24)))
    (fl24 : K.lookup f24 = some ⟨oc24, od24, .func (PySem.W.fnOf "_law_pot" "_law_pot" (defArgs s__law_pot) (defBody s__law_pot) (defScope s__law_pot) .none kV24 dc24 pm24 an24 cd24 ct24), sl24⟩)
    (fc24 : PySem.W.codeIn K cd24 "_law_pot" = true)
    (fk24 : PySem.W.keepIn K (.ref f24) = true)
    (fa25 : PySem.W.nsIn K mainGlobals "_law_dip" = some (some (.ref f25)))
    (fl25 : K.lookup f25 = some ⟨oc25, od25, .func (PySem.W.fnOf "_law_dip" "_law_dip" (defArgs s__law_dip) (defBody s__law_dip) (defScope s__law_dip) .none kV25 dc25 pm25 an25 cd25 ct25), sl25⟩)
    (fc25 : PySem.W.codeIn K cd25 "_law_dip" = true)
    (fk25 : PySem.W.keepIn K (.ref f25) = true)
    (fa26 : PySem.W.nsIn K mainGlobals "_law_name" = some (some (.ref f26)))
    (fl26 : K.lookup f26 = some ⟨oc26, od26, .func (PySem.W.fnOf "_law_name" "_law_name" (defArgs s__law_name) (defBody s__law_name) (defScope s__law_name) .none kV26 dc26 pm26 an26 cd26 ct26), sl26⟩)
    (fc26 : PySem.W.codeIn K cd26 "_law_name" = true)
    (fk26 : PySem.W.keepIn K (.ref f26) = true)
    (fa27 : PySem.W.nsIn K mainGlobals "_law_desks" = some (some (.ref f27)))
    (fl27 : K.lookup f27 = some ⟨oc27, od27, .func (PySem.W.fnOf "_law_desks" "_law_desks" (defArgs s__law_desks) (defBody s__law_desks) (defScope s__law_desks) .none kV27 dc27 pm27 an27 cd27 ct27), sl27⟩)
    (fc27 : PySem.W.codeIn K cd27 "_law_desks" = true)
    (fk27 : PySem.W.keepIn K (.ref f27) = true)
    (fa28 : PySem.W.nsIn K mainGlobals "_law_test" = some (some (.ref f28)))
    (fl28 : K.lookup f28 = some ⟨oc28, od28, .func (PySem.W.fnOf "_law_test" "_law_test" (defArgs s__law_test) (defBody s__law_test) (defScope s__law_test) .none kV28 dc28 pm28 an28 cd28 ct28), sl28⟩)
    (fc28 : PySem.W.codeIn K cd28 "_law_test" = true)
    (fk28 : PySem.W.keepIn K (.ref f28) = true)
    (fa29 : PySem.W.nsIn K mainGlobals "_law_action" = some (some (.ref f29)))
    (fl29 : K.lookup f29 = some ⟨oc29, od29, .func (PySem.W.fnOf "_law_action" "_law_action" (defArgs s__law_action) (defBody s__law_action) (defScope s__law_action) .none kV29 dc29 pm29 an29 cd29 ct29), sl29⟩)
    (fc29 : PySem.W.codeIn K cd29 "_law_action" = true)
    (fk29 : PySem.W.keepIn K (.ref f29) = true)
    (fa30 : PySem.W.nsIn K mainGlobals "_law_rule" = some (some (.ref f30)))
    (fl30 : K.lookup f30 = some ⟨oc30, od30, .func (PySem.W.fnOf "_law_rule" "_law_rule" (defArgs s__law_rule) (defBody s__law_rule) (defScope s__law_rule) .none kV30 dc30 pm30 an30 cd30 ct30), sl30⟩)
    (fc30 : PySem.W.codeIn K cd30 "_law_rule" = true)
    (fk30 : PySem.W.keepIn K (.ref f30) = true)
    (fa31 : PySem.W.nsIn K mainGlobals "_law_rules" = some (some (.ref f31)))
    (fl31 : K.lookup f31 = some ⟨oc31, od31, .func (PySem.W.fnOf "_law_rules" "_law_rules" (defArgs s__law_rules) (defBody s__law_rules) (defScope s__law_rules) .none kV31 dc31 pm31 an31 cd31 ct31), sl31⟩)
    (fc31 : PySem.W.codeIn K cd31 "_law_rules" = true)
    (fk31 : PySem.W.keepIn K (.ref f31) = true)
    (fa32 : PySem.W.nsIn K mainGlobals "_law_made" = some (some (.ref f32)))
    (fl32 : K.lookup f32 = some ⟨oc32, od32, .func (PySem.W.fnOf "_law_made" "_law_made" (defArgs s__law_made) (defBody s__law_made) (defScope s__law_made) .none kV32 dc32 pm32 an32 cd32 ct32), sl32⟩)
    (fc32 : PySem.W.codeIn K cd32 "_law_made" = true)
    (fk32 : PySem.W.keepIn K (.ref f32) = true)
    (fa33 : PySem.W.nsIn K mainGlobals "_law_alike" = some (some (.ref f33)))
    (fl33 : K.lookup f33 = some ⟨oc33, od33, .func (PySem.W.fnOf "_law_alike" "_law_alike" (defArgs s__law_alike) (defBody s__law_alike) (defScope s__law_alike) .none kV33 dc33 pm33 an33 cd33 ct33), sl33⟩)
    (fc33 : PySem.W.codeIn K cd33 "_law_alike" = true)
    (fk33 : PySem.W.keepIn K (.ref f33) = true)
    (fa34 : PySem.W.nsIn K mainGlobals "_law_near_row" = some (some (.ref f34)))
    (fl34 : K.lookup f34 = some ⟨oc34, od34, .func (PySem.W.fnOf "_law_near_row" "_law_near_row" (defArgs s__law_near_row) (defBody s__law_near_row) (defScope s__law_near_row) .none kV34 dc34 pm34 an34 cd34 ct34), sl34⟩)
    (fc34 : PySem.W.codeIn K cd34 "_law_near_row" = true)
    (fk34 : PySem.W.keepIn K (.ref f34) = true)
    (fa35 : PySem.W.nsIn K mainGlobals "_law_near_test" = some (some (.ref f35)))
    (fl35 : K.lookup f35 = some ⟨oc35, od35, .func (PySem.W.fnOf "_law_near_test" "_law_near_test" (defArgs s__law_near_test) (defBody s__law_near_test) (defScope s__law_near_test) .none kV35 dc35 pm35 an35 cd35 ct35), sl35⟩)
    (fc35 : PySem.W.codeIn K cd35 "_law_near_test" = true)
    (fk35 : PySem.W.keepIn K (.ref f35) = true)
    (fa36 : PySem.W.nsIn K mainGlobals "_law_near_rule" = some (some (.ref f36)))
    (fl36 : K.lookup f36 = some ⟨oc36, od36, .func (PySem.W.fnOf "_law_near_rule" "_law_near_rule" (defArgs s__law_near_rule) (defBody s__law_near_rule) (defScope s__law_near_rule) .none kV36 dc36 pm36 an36 cd36 ct36), sl36⟩)
    (fc36 : PySem.W.codeIn K cd36 "_law_near_rule" = true)
    (fk36 : PySem.W.keepIn K (.ref f36) = true)
    (fa37 : PySem.W.nsIn K mainGlobals "_law_near" = some (some (.ref f37)))
    (fl37 : K.lookup f37 = some ⟨oc37, od37, .func (PySem.W.fnOf "_law_near" "_law_near" (defArgs s__law_near) (defBody s__law_near) (defScope s__law_near) .none kV37 dc37 pm37 an37 cd37 ct37), sl37⟩)
    (fc37 : PySem.W.codeIn K cd37 "_law_near" = true)
    (fk37 : PySem.W.keepIn K (.ref f37) = true)
    (fa38 : PySem.W.nsIn K mainGlobals "_law_same" = some (some (.ref f38)))
    (fl38 : K.lookup f38 = some ⟨oc38, od38, .func (PySem.W.fnOf "_law_same" "_law_same" (defArgs s__law_same) (defBody s__law_same) (defScope s__law_same) .none kV38 dc38 pm38 an38 cd38 ct38), sl38⟩)
    (fc38 : PySem.W.codeIn K cd38 "_law_same" = true)
    (fk38 : PySem.W.keepIn K (.ref f38) = true)
    (fa39 : PySem.W.nsIn K mainGlobals "_law_right" = some (some (.ref f39)))
    (fl39 : K.lookup f39 = some ⟨oc39, od39, .func (PySem.W.fnOf "_law_right" "_law_right" (defArgs s__law_right) (defBody s__law_right) (defScope s__law_right) .none kV39 dc39 pm39 an39 cd39 ct39), sl39⟩)
    (fc39 : PySem.W.codeIn K cd39 "_law_right" = true)
    (fk39 : PySem.W.keepIn K (.ref f39) = true)
    (fa40 : PySem.W.nsIn K mainGlobals "law" = some (some (.ref f40)))
    (fl40 : K.lookup f40 = some ⟨oc40, od40, .func (PySem.W.fnOf "law" "law" (defArgs s_law) (defBody s_law) (defScope s_law) .none kV40 dc40 pm40 an40 cd40 ct40), sl40⟩)
    (fc40 : PySem.W.codeIn K cd40 "law" = true)
    (fk40 : PySem.W.keepIn K (.ref f40) = true) : TX P K mg { DeskError := z_DeskError, NoDesks := z_NoDesks, NoRule := z_NoRule, Book := z_Book, STATUSES := z_STATUSES, EVENTS := z_EVENTS, TEST_FORMS := z_TEST_FORMS, ACTION_FORMS := z_ACTION_FORMS, NoRule_init := z_NoRule_init } :=
  { b_abs := PySem.W.mg_none_of X G b_abs,
    b_all := PySem.W.mg_none_of X G b_all,
    b_bool := PySem.W.mg_none_of X G b_bool,
    b_enumerate := PySem.W.mg_none_of X G b_enumerate,
    b_int := PySem.W.mg_none_of X G b_int,
    b_isinstance := PySem.W.mg_none_of X G b_isinstance,
    b_len := PySem.W.mg_none_of X G b_len,
    b_list := PySem.W.mg_none_of X G b_list,
    b_max := PySem.W.mg_none_of X G b_max,
    b_min := PySem.W.mg_none_of X G b_min,
    b_range := PySem.W.mg_none_of X G b_range,
    b_set := PySem.W.mg_none_of X G b_set,
    b_str := PySem.W.mg_none_of X G b_str,
    b_super := PySem.W.mg_none_of X G b_super,
    b_tuple := PySem.W.mg_none_of X G b_tuple,
    b_zip := PySem.W.mg_none_of X G b_zip,
    g_LETTERS := constS_mk X G g_LETTERS,
    g_LONGEST_NAME := const_mk X G g_LONGEST_NAME,
    g_MOST_DESKS := const_mk X G g_MOST_DESKS,
    g_MOST_TESTS := const_mk X G g_MOST_TESTS,
    g_MOST_ACTIONS := const_mk X G g_MOST_ACTIONS,
    g_MOST_DAYS := const_mk X G g_MOST_DAYS,
    g_STATUSES := PySem.W.mg_of X G g_STATUSES,
    v_STATUSES := v_STATUSES,
    g_EVENTS := PySem.W.mg_of X G g_EVENTS,
    v_EVENTS := v_EVENTS,
    g_TEST_FORMS := PySem.W.mg_of X G g_TEST_FORMS,
    v_TEST_FORMS := v_TEST_FORMS,
    g_ACTION_FORMS := PySem.W.mg_of X G g_ACTION_FORMS,
    v_ACTION_FORMS := v_ACTION_FORMS,
    g_MOST_RULES := const_mk X G g_MOST_RULES,
    c_DeskError := PySem.W.mg_of X G c_DeskError,
    c_NoDesks := PySem.W.mg_of X G c_NoDesks,
    c_NoRule := PySem.W.mg_of X G c_NoRule,
    c_Book := PySem.W.mg_of X G c_Book,
    tg_class := tg_class,
    tt_class := tt_class,
    cl_Book := ⟨pg_Book, hd_Book, po_Book, sa_Book⟩,
    ty_Book := ty_Book,
    mo_Book := mo_Book,
    mf_Book_NoneType := mf_Book_NoneType,
    kf_Book_NoneType := kf_Book_NoneType,
    mf_Book_bool := mf_Book_bool,
    kf_Book_bool := kf_Book_bool,
    mf_Book_int := mf_Book_int,
    kf_Book_int := kf_Book_int,
    mf_Book_str := mf_Book_str,
    kf_Book_str := kf_Book_str,
    mf_Book_list := mf_Book_list,
    kf_Book_list := kf_Book_list,
    mf_Book_tuple := mf_Book_tuple,
    kf_Book_tuple := kf_Book_tuple,
    ne_Book := ne_Book,
    sf_Book := sf_Book,
    nf_Book := nf_Book,
    na_Book__desks := na_Book__desks,
    na_Book__rules := na_Book__rules,
    m_DeskError := xm_DeskError,
    x_DeskError := ⟨xq_DeskError, xk_DeskError, xe_DeskError, xt_DeskError⟩,
    m_NoDesks := xm_NoDesks,
    x_NoDesks := ⟨xq_NoDesks, xk_NoDesks, xe_NoDesks, xt_NoDesks⟩,
    m_NoRule := xm_NoRule,
    x_NoRule := { cls := ⟨nm_NoRule, q_NoRule, N_NoRule, bs_NoRule, bm_NoRule, sn_NoRule, sub_NoRule, ab_NoRule, col_NoRule, dd_NoRule, k0_NoRule, k1_NoRule, k2_NoRule, k3_NoRule, k5_NoRule, xc_NoRule, xr_NoRule⟩, inI := xinI_NoRule, sa := xsa_NoRule, ga := xga_NoRule, gg := xgg_NoRule, noN := xnoN_NoRule, iC := xiC_NoRule, tC := xtC_NoRule, kC := xkC_NoRule, exC := xexC_NoRule, exV := xexV_NoRule, tyC := xtyC_NoRule, hdC := xhdC_NoRule, mro := xmro_NoRule, above := xabove_NoRule, sup := PySem.W.mg_none_of X G b_super, opq := opq, htop := htop, fn := ⟨oc_NoRule, od_NoRule, doc_NoRule, pm_NoRule, an_NoRule, cda_NoRule, cc_NoRule, ct_NoRule, osl_NoRule, "NoRule.__init__", _, _, _, _, _, _, _, _, _, _, _, _, _, ccl_NoRule, cl_NoRule, cdd_NoRule, cld_NoRule, vs_NoRule, ccs_NoRule, csl_NoRule, file_NoRule, tf_NoRule, xf_NoRule, xd_NoRule, xa_NoRule, xv_NoRule, xw_NoRule, xx_NoRule, fun env => ⟨_, rfl⟩⟩ },
    f_is_whole := fnAt_mk X G fa1 fl1 fc1 fk1 (fun _ _ _ _ _ _ us hl => match us, hl with | [_], _ => rfl),
    f_is_name := fnAt_mk X G fa2 fl2 fc2 fk2 (fun _ _ _ _ _ _ us hl => match us, hl with | [_], _ => rfl),
    f_are_desks := fnAt_mk X G fa3 fl3 fc3 fk3 (fun _ _ _ _ _ _ us hl => match us, hl with | [_], _ => rfl),
    f_is_rule := fnAt_mk X G fa4 fl4 fc4 fk4 (fun _ _ _ _ _ _ us hl => match us, hl with | [_, _], _ => rfl),
    f_is_index := fnAt_mk X G fa5 fl5 fc5 fk5 (fun _ _ _ _ _ _ us hl => match us, hl with | [_, _], _ => rfl),
    f_is_word := fnAt_mk X G fa6 fl6 fc6 fk6 (fun _ _ _ _ _ _ us hl => match us, hl with | [_, _], _ => rfl),
    f__has_form := fnAt_mk X G fa7 fl7 fc7 fk7 (fun _ _ _ _ _ _ us hl => match us, hl with | [_, _, _], _ => rfl),
    f__fits := fnAt_mk X G fa8 fl8 fc8 fk8 (fun _ _ _ _ _ _ us hl => match us, hl with | [_, _, _], _ => rfl),
    in_Book := initAt_mk X G ⟨pg_Book, hd_Book, po_Book, sa_Book⟩ c_Book mk_Book kc_Book fa9 fi9 fl9 fc9 fk9 (fun _ _ _ _ _ _ us hl => match us, hl with | [_, _, _], _ => rfl),
    mt_Book_desks := methAt_mk fa10 fi10 fl10 fc10 fk10 (fun _ _ _ _ _ _ us hl => match us, hl with | [_], _ => rfl),
    mt_Book_rules := methAt_mk fa11 fi11 fl11 fc11 fk11 (fun _ _ _ _ _ _ us hl => match us, hl with | [_], _ => rfl),
    mt_Book_len := methAt_mk fa12 fi12 fl12 fc12 fk12 (fun _ _ _ _ _ _ us hl => match us, hl with | [_], _ => rfl),
    mt_Book_getitem := methAt_mk fa13 fi13 fl13 fc13 fk13 (fun _ _ _ _ _ _ us hl => match us, hl with | [_, _], _ => rfl),
    mt_Book_iter := methAt_mk fa14 fi14 fl14 fc14 fk14 (fun _ _ _ _ _ _ us hl => match us, hl with | [_], _ => rfl),
    mt_Book_eq := methAt_mk fa15 fi15 fl15 fc15 fk15 (fun _ _ _ _ _ _ us hl => match us, hl with | [_, _], _ => rfl),
    mt_Book_add := methAt_mk fa16 fi16 fl16 fc16 fk16 (fun _ _ _ _ _ _ us hl => match us, hl with | [_, _], _ => rfl),
    mt_Book_without := methAt_mk fa17 fi17 fl17 fc17 fk17 (fun _ _ _ _ _ _ us hl => match us, hl with | [_, _], _ => rfl),
    mt_Book_exchanged := methAt_mk fa18 fi18 fl18 fc18 fk18 (fun _ _ _ _ _ _ us hl => match us, hl with | [_, _], _ => rfl),
    mt_Book__has := methAt_mk fa19 fi19 fl19 fc19 fk19 (fun _ _ _ _ _ _ us hl => match us, hl with | [_, _], _ => rfl),
    f_book_text := fnAt_mk X G fa20 fl20 fc20 fk20 (fun _ _ _ _ _ _ us hl => match us, hl with | [_], _ => rfl),
    f__rule_text := fnAt_mk X G fa21 fl21 fc21 fk21 (fun _ _ _ _ _ _ us hl => match us, hl with | [_], _ => rfl),
    f__test_text := fnAt_mk X G fa22 fl22 fc22 fk22 (fun _ _ _ _ _ _ us hl => match us, hl with | [_], _ => rfl),
    f__action_text := fnAt_mk X G fa23 fl23 fc23 fk23 (fun _ _ _ _ _ _ us hl => match us, hl with | [_], _ => rfl),
    f__law_pot := fnAt_mk X G fa24 fl24 fc24 fk24 (fun _ _ _ _ _ _ us hl => match us, hl with | [_, _], _ => rfl),
    f__law_dip := fnAt_mk X G fa25 fl25 fc25 fk25 (fun _ _ _ _ _ _ us hl => match us, hl with | [_, _], _ => rfl),
    f__law_name := fnAt_mk X G fa26 fl26 fc26 fk26 (fun _ _ _ _ _ _ us hl => match us, hl with | [_], _ => rfl),
    f__law_desks := fnAt_mk X G fa27 fl27 fc27 fk27 (fun _ _ _ _ _ _ us hl => match us, hl with | [_], _ => rfl),
    f__law_test := fnAt_mk X G fa28 fl28 fc28 fk28 (fun _ _ _ _ _ _ us hl => match us, hl with | [_, _], _ => rfl),
    f__law_action := fnAt_mk X G fa29 fl29 fc29 fk29 (fun _ _ _ _ _ _ us hl => match us, hl with | [_, _], _ => rfl),
    f__law_rule := fnAt_mk X G fa30 fl30 fc30 fk30 (fun _ _ _ _ _ _ us hl => match us, hl with | [_, _], _ => rfl),
    f__law_rules := fnAt_mk X G fa31 fl31 fc31 fk31 (fun _ _ _ _ _ _ us hl => match us, hl with | [_, _, _], _ => rfl),
    f__law_made := fnAt_mk X G fa32 fl32 fc32 fk32 (fun _ _ _ _ _ _ us hl => match us, hl with | [_, _, _], _ => rfl),
    f__law_alike := fnAt_mk X G fa33 fl33 fc33 fk33 (fun _ _ _ _ _ _ us hl => match us, hl with | [_, _], _ => rfl),
    f__law_near_row := fnAt_mk X G fa34 fl34 fc34 fk34 (fun _ _ _ _ _ _ us hl => match us, hl with | [_, _, _], _ => rfl),
    f__law_near_test := fnAt_mk X G fa35 fl35 fc35 fk35 (fun _ _ _ _ _ _ us hl => match us, hl with | [_, _, _], _ => rfl),
    f__law_near_rule := fnAt_mk X G fa36 fl36 fc36 fk36 (fun _ _ _ _ _ _ us hl => match us, hl with | [_, _, _], _ => rfl),
    f__law_near := fnAt_mk X G fa37 fl37 fc37 fk37 (fun _ _ _ _ _ _ us hl => match us, hl with | [_, _, _], _ => rfl),
    f__law_same := fnAt_mk X G fa38 fl38 fc38 fk38 (fun _ _ _ _ _ _ us hl => match us, hl with | [_, _, _], _ => rfl),
    f__law_right := fnAt_mk X G fa39 fl39 fc39 fk39 (fun _ _ _ _ _ _ us hl => match us, hl with | [_], _ => rfl),
    f_law := fnAt_mk X G fa40 fl40 fc40 fk40 (fun _ _ _ _ _ _ us hl => match us, hl with | [_], _ => rfl) }

end Ld
open PySem PySem.W PyProof.Rows
set_option maxRecDepth 100000 in
set_option maxHeartbeats 0 in
theorem PySem.Challenge.cw_lettersdesk_k07_equal_books_holds : PySem.Challenge.rw_lettersdesk_k07_equal_books.Holds := by
  w_on; o_law; k_head; (case hw => w_witness2)
  k_fill
  refine Ld.walk_law (l := PySem.Challenge.rw_lettersdesk_k07_equal_books) rfl rfl rfl (fun w h Y => PySem.W.kIn_of Y) ?F
  case F =>
    intro w mg h KX G
    apply Exists.intro
    refine' Ld.tx_mk KX G ?b_abs ?b_all ?b_bool ?b_enumerate ?b_int ?b_isinstance ?b_len ?b_list ?b_max ?b_min ?b_range ?b_set ?b_str ?b_super ?b_tuple ?b_zip ?g_LETTERS ?g_LONGEST_NAME ?g_MOST_DESKS ?g_MOST_TESTS ?g_MOST_ACTIONS ?g_MOST_DAYS ?g_STATUSES ?v_STATUSES ?g_EVENTS ?v_EVENTS ?g_TEST_FORMS ?v_TEST_FORMS ?g_ACTION_FORMS ?v_ACTION_FORMS ?g_MOST_RULES ?c_DeskError ?c_NoDesks ?c_NoRule ?c_Book ?tg_class ?tt_class ?pg_Book ?hd_Book ?po_Book ?sa_Book ?sf_Book ?nf_Book ?ty_Book ?mo_Book ?mf_Book_NoneType ?kf_Book_NoneType ?mf_Book_bool ?kf_Book_bool ?mf_Book_int ?kf_Book_int ?mf_Book_str ?kf_Book_str ?mf_Book_list ?kf_Book_list ?mf_Book_tuple ?kf_Book_tuple ?ne_Book ?na_Book__desks ?na_Book__rules ?xm_DeskError ?xq_DeskError ?xk_DeskError ?xe_DeskError ?xt_DeskError ?xm_NoDesks ?xq_NoDesks ?xk_NoDesks ?xe_NoDesks ?xt_NoDesks ?xm_NoRule ?xc_NoRule ?xr_NoRule ?xinI_NoRule ?xsa_NoRule ?xga_NoRule ?xgg_NoRule ?xnoN_NoRule ?xiC_NoRule ?xtC_NoRule ?xkC_NoRule ?xexC_NoRule ?xexV_NoRule ?xtyC_NoRule ?xhdC_NoRule ?xmro_NoRule ?xabove_NoRule ?xf_NoRule ?xd_NoRule ?xa_NoRule ?xv_NoRule ?xw_NoRule ?xx_NoRule ?opq ?htop ?fa1 ?fl1 ?fc1 ?fk1 ?fa2 ?fl2 ?fc2 ?fk2 ?fa3 ?fl3 ?fc3 ?fk3 ?fa4 ?fl4 ?fc4 ?fk4 ?fa5 ?fl5 ?fc5 ?fk5 ?fa6 ?fl6 ?fc6 ?fk6 ?fa7 ?fl7 ?fc7 ?fk7 ?fa8 ?fl8 ?fc8 ?fk8 ?fa9 ?fi9 ?fl9 ?fc9 ?fk9 ?mk_Book ?kc_Book ?fa10 ?fi10 ?fl10 ?fc10 ?fk10 ?fa11 ?fi11 ?fl11 ?fc11 ?fk11 ?fa12 ?fi12 ?fl12 ?fc12 ?fk12 ?fa13 ?fi13 ?fl13 ?fc13 ?fk13 ?fa14 ?fi14 ?fl14 ?fc14 ?fk14 ?fa15 ?fi15 ?fl15 ?fc15 ?fk15 ?fa16 ?fi16 ?fl16 ?fc16 ?fk16 ?fa17 ?fi17 ?fl17 ?fc17 ?fk17 ?fa18 ?fi18 ?fl18 ?fc18 ?fk18 ?fa19 ?fi19 ?fl19 ?fc19 ?fk19 ?fa20 ?fl20 ?fc20 ?fk20 ?fa21 ?fl21 ?fc21 ?fk21 ?fa22 ?fl22 ?fc22 ?fk22 ?fa23 ?fl23 ?fc23 ?fk23 ?fa24 ?fl24 ?fc24 ?fk24 ?fa25 ?fl25 ?fc25 ?fk25 ?fa26 ?fl26 ?fc26 ?fk26 ?fa27 ?fl27 ?fc27 ?fk27 ?fa28 ?fl28 ?fc28 ?fk28 ?fa29 ?fl29 ?fc29 ?fk29 ?fa30 ?fl30 ?fc30 ?fk30 ?fa31 ?fl31 ?fc31 ?fk31 ?fa32 ?fl32 ?fc32 ?fk32 ?fa33 ?fl33 ?fc33 ?fk33 ?fa34 ?fl34 ?fc34 ?fk34 ?fa35 ?fl35 ?fc35 ?fk35 ?fa36 ?fl36 ?fc36 ?fk36 ?fa37 ?fl37 ?fc37 ?fk37 ?fa38 ?fl38 ?fc38 ?fk38 ?fa39 ?fl39 ?fc39 ?fk39 ?fa40 ?fl40 ?fc40 ?fk40
    (case b_abs => first | k_is | kernel_rfl | rfl)
    (case b_all => first | k_is | kernel_rfl | rfl)
    (case b_bool => first | k_is | kernel_rfl | rfl)
    (case b_enumerate => first | k_is | kernel_rfl | rfl)
    (case b_int => first | k_is | kernel_rfl | rfl)
    (case b_isinstance => first | k_is | kernel_rfl | rfl)
    (case b_len => first | k_is | kernel_rfl | rfl)
    (case b_list => first | k_is | kernel_rfl | rfl)
    (case b_max => first | k_is | kernel_rfl | rfl)
    (case b_min => first | k_is | kernel_rfl | rfl)
    (case b_range => first | k_is | kernel_rfl | rfl)
    (case b_set => first | k_is | kernel_rfl | rfl)
    (case b_str => first | k_is | kernel_rfl | rfl)
    (case b_super => first | k_is | kernel_rfl | rfl)
    (case b_tuple => first | k_is | kernel_rfl | rfl)
    (case b_zip => first | k_is | kernel_rfl | rfl)
    (case g_LETTERS => first | k_is | kernel_rfl | rfl)
    (case g_LONGEST_NAME => first | k_is | kernel_rfl | rfl)
    (case g_MOST_DESKS => first | k_is | kernel_rfl | rfl)
    (case g_MOST_TESTS => first | k_is | kernel_rfl | rfl)
    (case g_MOST_ACTIONS => first | k_is | kernel_rfl | rfl)
    (case g_MOST_DAYS => first | k_is | kernel_rfl | rfl)
    (case g_STATUSES => first | k_is | kernel_rfl | rfl)
    (case v_STATUSES => first | kernel_rfl | kernel_rfl | rfl)
    (case g_EVENTS => first | k_is | kernel_rfl | rfl)
    (case v_EVENTS => first | kernel_rfl | kernel_rfl | rfl)
    (case g_TEST_FORMS => first | k_is | kernel_rfl | rfl)
    (case v_TEST_FORMS => first | kernel_rfl | kernel_rfl | rfl)
    (case g_ACTION_FORMS => first | k_is | kernel_rfl | rfl)
    (case v_ACTION_FORMS => first | kernel_rfl | kernel_rfl | rfl)
    (case g_MOST_RULES => first | k_is | kernel_rfl | rfl)
    (case c_DeskError => first | k_is | kernel_rfl | rfl)
    (case c_NoDesks => first | k_is | kernel_rfl | rfl)
    (case c_NoRule => first | k_is | kernel_rfl | rfl)
    (case c_Book => first | k_is | kernel_rfl | rfl)
    (case tg_class => first | k_is | kernel_rfl | rfl)
    (case tt_class => first | k_is | kernel_rfl | rfl)
    (case pg_Book => first | k_is | kernel_rfl | rfl)
    (case hd_Book => first | k_is | kernel_rfl | rfl)
    (case po_Book => first | k_is | kernel_rfl | rfl)
    (case sa_Book => first | k_is | kernel_rfl | rfl)
    (case sf_Book => first | k_is | kernel_rfl | rfl)
    (case nf_Book => first | k_is | kernel_rfl | rfl)
    (case ty_Book => first | k_is | kernel_rfl | rfl)
    (case mo_Book => first | k_is | kernel_rfl | rfl)
    (case mf_Book_NoneType => first | k_is | kernel_rfl | rfl)
    (case kf_Book_NoneType => first | kit_is | kernel_rfl | rfl)
    (case mf_Book_bool => first | k_is | kernel_rfl | rfl)
    (case kf_Book_bool => first | kit_is | kernel_rfl | rfl)
    (case mf_Book_int => first | k_is | kernel_rfl | rfl)
    (case kf_Book_int => first | kit_is | kernel_rfl | rfl)
    (case mf_Book_str => first | k_is | kernel_rfl | rfl)
    (case kf_Book_str => first | kit_is | kernel_rfl | rfl)
    (case mf_Book_list => first | k_is | kernel_rfl | rfl)
    (case kf_Book_list => first | kit_is | kernel_rfl | rfl)
    (case mf_Book_tuple => first | k_is | kernel_rfl | rfl)
    (case kf_Book_tuple => first | kit_is | kernel_rfl | rfl)
    (case ne_Book => first | k_is | kernel_rfl | rfl)
    (case na_Book__desks => first | k_is | kernel_rfl | rfl)
    (case na_Book__rules => first | k_is | kernel_rfl | rfl)
    (case xm_DeskError => first | k_is | kernel_rfl | rfl)
    (case xq_DeskError => first | k_is | kernel_rfl | rfl)
    (case xk_DeskError => first | k_is | kernel_rfl | rfl)
    (case xe_DeskError => first | k_is | kernel_rfl | rfl)
    (case xt_DeskError => first | k_is | kernel_rfl | rfl)
    (case xm_NoDesks => first | k_is | kernel_rfl | rfl)
    (case xq_NoDesks => first | k_is | kernel_rfl | rfl)
    (case xk_NoDesks => first | k_is | kernel_rfl | rfl)
    (case xe_NoDesks => first | k_is | kernel_rfl | rfl)
    (case xt_NoDesks => first | k_is | kernel_rfl | rfl)
    (case xm_NoRule => first | k_is | kernel_rfl | rfl)
    (case xc_NoRule => first | k_is | kernel_rfl | rfl)
    (case xr_NoRule => first | rfl | kernel_rfl | rfl)
    (case xinI_NoRule => first | k_is | kernel_rfl | rfl)
    (case xsa_NoRule => first | k_is | kernel_rfl | rfl)
    (case xga_NoRule => first | k_is | kernel_rfl | rfl)
    (case xgg_NoRule => first | k_is | kernel_rfl | rfl)
    (case xnoN_NoRule => first | k_is | kernel_rfl | rfl)
    (case xiC_NoRule => first | k_is | kernel_rfl | rfl)
    (case xtC_NoRule => first | k_is | kernel_rfl | rfl)
    (case xkC_NoRule => first | k_is | kernel_rfl | rfl)
    (case xexC_NoRule => first | k_is | kernel_rfl | rfl)
    (case xexV_NoRule => first | k_is | kernel_rfl | rfl)
    (case xtyC_NoRule => first | k_is | kernel_rfl | rfl)
    (case xhdC_NoRule => first | k_is | kernel_rfl | rfl)
    (case xmro_NoRule => first | k_is | kernel_rfl | rfl)
    (case xabove_NoRule => first | k_is | kernel_rfl | rfl)
    (case xf_NoRule => first | k_is | kernel_rfl | rfl)
    (case xd_NoRule => first | k_is | kernel_rfl | rfl)
    (case xa_NoRule => first | k_is | kernel_rfl | rfl)
    (case xv_NoRule => first | rfl | kernel_rfl | rfl)
    (case xw_NoRule => first | rfl | kernel_rfl | rfl)
    (case xx_NoRule => first | k_is | kernel_rfl | rfl)
    (case opq => first | k_is | kernel_rfl | rfl)
    (case htop => first | rfl | kernel_rfl | rfl)
    (case fa1 => first | k_is | kernel_rfl | rfl)
    (case fl1 => first | k_is | kernel_rfl | rfl)
    (case fc1 => first | k_is | kernel_rfl | rfl)
    (case fk1 => first | k_is | kernel_rfl | rfl)
    (case fa2 => first | k_is | kernel_rfl | rfl)
    (case fl2 => first | k_is | kernel_rfl | rfl)
    (case fc2 => first | k_is | kernel_rfl | rfl)
    (case fk2 => first | k_is | kernel_rfl | rfl)
    (case fa3 => first | k_is | kernel_rfl | rfl)
    (case fl3 => first | k_is | kernel_rfl | rfl)
    (case fc3 => first | k_is | kernel_rfl | rfl)
    (case fk3 => first | k_is | kernel_rfl | rfl)
    (case fa4 => first | k_is | kernel_rfl | rfl)
    (case fl4 => first | k_is | kernel_rfl | rfl)
    (case fc4 => first | k_is | kernel_rfl | rfl)
    (case fk4 => first | k_is | kernel_rfl | rfl)
    (case fa5 => first | k_is | kernel_rfl | rfl)
    (case fl5 => first | k_is | kernel_rfl | rfl)
    (case fc5 => first | k_is | kernel_rfl | rfl)
    (case fk5 => first | k_is | kernel_rfl | rfl)
    (case fa6 => first | k_is | kernel_rfl | rfl)
    (case fl6 => first | k_is | kernel_rfl | rfl)
    (case fc6 => first | k_is | kernel_rfl | rfl)
    (case fk6 => first | k_is | kernel_rfl | rfl)
    (case fa7 => first | k_is | kernel_rfl | rfl)
    (case fl7 => first | k_is | kernel_rfl | rfl)
    (case fc7 => first | k_is | kernel_rfl | rfl)
    (case fk7 => first | k_is | kernel_rfl | rfl)
    (case fa8 => first | k_is | kernel_rfl | rfl)
    (case fl8 => first | k_is | kernel_rfl | rfl)
    (case fc8 => first | k_is | kernel_rfl | rfl)
    (case fk8 => first | k_is | kernel_rfl | rfl)
    (case fa9 => first | k_is | kernel_rfl | rfl)
    (case fi9 => first | k_is | kernel_rfl | rfl)
    (case fl9 => first | k_is | kernel_rfl | rfl)
    (case fc9 => first | k_is | kernel_rfl | rfl)
    (case fk9 => first | k_is | kernel_rfl | rfl)
    (case mk_Book => first | k_is | kernel_rfl | rfl)
    (case kc_Book => first | k_is | kernel_rfl | rfl)
    (case fa10 => first | k_is | kernel_rfl | rfl)
    (case fi10 => first | k_is | kernel_rfl | rfl)
    (case fl10 => first | k_is | kernel_rfl | rfl)
    (case fc10 => first | k_is | kernel_rfl | rfl)
    (case fk10 => first | k_is | kernel_rfl | rfl)
    (case fa11 => first | k_is | kernel_rfl | rfl)
    (case fi11 => first | k_is | kernel_rfl | rfl)
    (case fl11 => first | k_is | kernel_rfl | rfl)
    (case fc11 => first | k_is | kernel_rfl | rfl)
    (case fk11 => first | k_is | kernel_rfl | rfl)
    (case fa12 => first | k_is | kernel_rfl | rfl)
    (case fi12 => first | k_is | kernel_rfl | rfl)
    (case fl12 => first | k_is | kernel_rfl | rfl)
    (case fc12 => first | k_is | kernel_rfl | rfl)
    (case fk12 => first | k_is | kernel_rfl | rfl)
    (case fa13 => first | k_is | kernel_rfl | rfl)
    (case fi13 => first | k_is | kernel_rfl | rfl)
    (case fl13 => first | k_is | kernel_rfl | rfl)
    (case fc13 => first | k_is | kernel_rfl | rfl)
    (case fk13 => first | k_is | kernel_rfl | rfl)
    (case fa14 => first | k_is | kernel_rfl | rfl)
    (case fi14 => first | k_is | kernel_rfl | rfl)
    (case fl14 => first | k_is | kernel_rfl | rfl)
    (case fc14 => first | k_is | kernel_rfl | rfl)
    (case fk14 => first | k_is | kernel_rfl | rfl)
    (case fa15 => first | k_is | kernel_rfl | rfl)
    (case fi15 => first | k_is | kernel_rfl | rfl)
    (case fl15 => first | k_is | kernel_rfl | rfl)
    (case fc15 => first | k_is | kernel_rfl | rfl)
    (case fk15 => first | k_is | kernel_rfl | rfl)
    (case fa16 => first | k_is | kernel_rfl | rfl)
    (case fi16 => first | k_is | kernel_rfl | rfl)
    (case fl16 => first | k_is | kernel_rfl | rfl)
    (case fc16 => first | k_is | kernel_rfl | rfl)
    (case fk16 => first | k_is | kernel_rfl | rfl)
    (case fa17 => first | k_is | kernel_rfl | rfl)
    (case fi17 => first | k_is | kernel_rfl | rfl)
    (case fl17 => first | k_is | kernel_rfl | rfl)
    (case fc17 => first | k_is | kernel_rfl | rfl)
    (case fk17 => first | k_is | kernel_rfl | rfl)
    (case fa18 => first | k_is | kernel_rfl | rfl)
    (case fi18 => first | k_is | kernel_rfl | rfl)
    (case fl18 => first | k_is | kernel_rfl | rfl)
    (case fc18 => first | k_is | kernel_rfl | rfl)
    (case fk18 => first | k_is | kernel_rfl | rfl)
    (case fa19 => first | k_is | kernel_rfl | rfl)
    (case fi19 => first | k_is | kernel_rfl | rfl)
    (case fl19 => first | k_is | kernel_rfl | rfl)
    (case fc19 => first | k_is | kernel_rfl | rfl)
    (case fk19 => first | k_is | kernel_rfl | rfl)
    (case fa20 => first | k_is | kernel_rfl | rfl)
    (case fl20 => first | k_is | kernel_rfl | rfl)
    (case fc20 => first | k_is | kernel_rfl | rfl)
    (case fk20 => first | k_is | kernel_rfl | rfl)
    (case fa21 => first | k_is | kernel_rfl | rfl)
    (case fl21 => first | k_is | kernel_rfl | rfl)
    (case fc21 => first | k_is | kernel_rfl | rfl)
    (case fk21 => first | k_is | kernel_rfl | rfl)
    (case fa22 => first | k_is | kernel_rfl | rfl)
    (case fl22 => first | k_is | kernel_rfl | rfl)
    (case fc22 => first | k_is | kernel_rfl | rfl)
    (case fk22 => first | k_is | kernel_rfl | rfl)
    (case fa23 => first | k_is | kernel_rfl | rfl)
    (case fl23 => first | k_is | kernel_rfl | rfl)
    (case fc23 => first | k_is | kernel_rfl | rfl)
    (case fk23 => first | k_is | kernel_rfl | rfl)
    (case fa24 => first | k_is | kernel_rfl | rfl)
    (case fl24 => first | k_is | kernel_rfl | rfl)
    (case fc24 => first | k_is | kernel_rfl | rfl)
    (case fk24 => first | k_is | kernel_rfl | rfl)
    (case fa25 => first | k_is | kernel_rfl | rfl)
    (case fl25 => first | k_is | kernel_rfl | rfl)
    (case fc25 => first | k_is | kernel_rfl | rfl)
    (case fk25 => first | k_is | kernel_rfl | rfl)
    (case fa26 => first | k_is | kernel_rfl | rfl)
    (case fl26 => first | k_is | kernel_rfl | rfl)
    (case fc26 => first | k_is | kernel_rfl | rfl)
    (case fk26 => first | k_is | kernel_rfl | rfl)
    (case fa27 => first | k_is | kernel_rfl | rfl)
    (case fl27 => first | k_is | kernel_rfl | rfl)
    (case fc27 => first | k_is | kernel_rfl | rfl)
    (case fk27 => first | k_is | kernel_rfl | rfl)
    (case fa28 => first | k_is | kernel_rfl | rfl)
    (case fl28 => first | k_is | kernel_rfl | rfl)
    (case fc28 => first | k_is | kernel_rfl | rfl)
    (case fk28 => first | k_is | kernel_rfl | rfl)
    (case fa29 => first | k_is | kernel_rfl | rfl)
    (case fl29 => first | k_is | kernel_rfl | rfl)
    (case fc29 => first | k_is | kernel_rfl | rfl)
    (case fk29 => first | k_is | kernel_rfl | rfl)
    (case fa30 => first | k_is | kernel_rfl | rfl)
    (case fl30 => first | k_is | kernel_rfl | rfl)
    (case fc30 => first | k_is | kernel_rfl | rfl)
    (case fk30 => first | k_is | kernel_rfl | rfl)
    (case fa31 => first | k_is | kernel_rfl | rfl)
    (case fl31 => first | k_is | kernel_rfl | rfl)
    (case fc31 => first | k_is | kernel_rfl | rfl)
    (case fk31 => first | k_is | kernel_rfl | rfl)
    (case fa32 => first | k_is | kernel_rfl | rfl)
    (case fl32 => first | k_is | kernel_rfl | rfl)
    (case fc32 => first | k_is | kernel_rfl | rfl)
    (case fk32 => first | k_is | kernel_rfl | rfl)
    (case fa33 => first | k_is | kernel_rfl | rfl)
    (case fl33 => first | k_is | kernel_rfl | rfl)
    (case fc33 => first | k_is | kernel_rfl | rfl)
    (case fk33 => first | k_is | kernel_rfl | rfl)
    (case fa34 => first | k_is | kernel_rfl | rfl)
    (case fl34 => first | k_is | kernel_rfl | rfl)
    (case fc34 => first | k_is | kernel_rfl | rfl)
    (case fk34 => first | k_is | kernel_rfl | rfl)
    (case fa35 => first | k_is | kernel_rfl | rfl)
    (case fl35 => first | k_is | kernel_rfl | rfl)
    (case fc35 => first | k_is | kernel_rfl | rfl)
    (case fk35 => first | k_is | kernel_rfl | rfl)
    (case fa36 => first | k_is | kernel_rfl | rfl)
    (case fl36 => first | k_is | kernel_rfl | rfl)
    (case fc36 => first | k_is | kernel_rfl | rfl)
    (case fk36 => first | k_is | kernel_rfl | rfl)
    (case fa37 => first | k_is | kernel_rfl | rfl)
    (case fl37 => first | k_is | kernel_rfl | rfl)
    (case fc37 => first | k_is | kernel_rfl | rfl)
    (case fk37 => first | k_is | kernel_rfl | rfl)
    (case fa38 => first | k_is | kernel_rfl | rfl)
    (case fl38 => first | k_is | kernel_rfl | rfl)
    (case fc38 => first | k_is | kernel_rfl | rfl)
    (case fk38 => first | k_is | kernel_rfl | rfl)
    (case fa39 => first | k_is | kernel_rfl | rfl)
    (case fl39 => first | k_is | kernel_rfl | rfl)
    (case fc39 => first | k_is | kernel_rfl | rfl)
    (case fk39 => first | k_is | kernel_rfl | rfl)
    (case fa40 => first | k_is | kernel_rfl | rfl)
    (case fl40 => first | k_is | kernel_rfl | rfl)
    (case fc40 => first | k_is | kernel_rfl | rfl)
    (case fk40 => first | k_is | kernel_rfl | rfl)

