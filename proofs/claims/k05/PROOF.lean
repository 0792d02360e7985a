import PyProof.Rows.All
import Wide.All
import OpenK.AllK
import Wide.FinOn
import HandS.Base
import HandS.Call
import HandS.List
import HandS.OwnEq
import HandS.Ends
import HandS.ClsMeth
import HandS.ExcOwn
import HandS.ExcIs
import HandS.TryOnly
import KE.KExcSuper
import HandS.ExcInit
import HandS.ExcField
import HandS.Words
import HandS.SortKw
import HandS.IterNext
import KE.DataMinMax
import KE.KExcIs
import KE.KExcLine
import HandS.OwnIter
import HandS.Walk
import KE.GoesMore
import KE.SortData
import HandS.SortRule
import HandS.ForMost
import HandS.Wide
import HandS.IsInst
import HandS.Defaults
import HandS.FStr
import HandS.Style
import HandS.StrMore
import HandS.Replace
import HandS.Text
import HandS.Codes
import HandS.WordsExc
import PyProof.StrBlock2
import PySem.Challenge.RW_unbrokenrows_k05_orders_and_runs
set_option Elab.async false
set_option linter.all false
set_option maxRecDepth 100000
namespace My
open PySem PySem.Spec PyProof.Rows L2
section
variable {X : Cx} {CX : CXT} {n : Nat} {f C : Addr} {fd : FuncData} {ps : List Str} {sp : Sp} {E : XK}
/-- a promise, called anywhere in the running body -/
theorem call_at (G0 : FnOk X.prog X.w X.K X.mg X.base CX n f fd ps sp) (hb : Binds X.K fd ps []) (hx : Passes CX X E) {A : Around} (hr : Room n A) (hA : A.frames = X.A.frames)
    {pins : List (Addr × Obj)} {s : Shared} {σ : L2.St} {H : Hp} (I : Inv X pins σ H s) {vs : List V} {us : List Value} (r : Vals vs us) {Q : VK} (h : sp vs H Q E) :
    wpAny (model X.prog X.w) A (call (.ref f) us) (EP X pins σ Q) X.xe s := by
  have e0 : Env0 X.prog X.w X.K X.mg X.base A X.stack s H := by
    have e := I.env0
    exact ⟨by rw [hA]; exact e.frames, e.mod, e.bs, e.bsz, e.funs, e.frf, e.hok, e.bare⟩
  have hl := G0.len _ _ _ _ h
  refine wpAny_call (codeAny_mono (G0.run A X.stack s H ⟨us, []⟩ us vs Q E hr e0 (by
    have := hb s us I.kIn (by rw [List.append_nil, ← r.length]; exact hl)
    simpa using this) r h) fun r s' hq => ?_)
  cases r with
  | error e => exact hx pins σ H s e s' I hq
  | ok fl =>
    cases fl with
    | ret w => exact I.after hq
    | next => exact False.elim hq
    | brk => exact False.elim hq
    | cont => exact False.elim hq
theorem relV_noNI {v : V} {u : Value} (r : RelV v u) : u ≠ .notImplemented := by
  intro e
  subst e
  cases v <;> first | (cases r; done) | (obtain ⟨_, z⟩ := r; cases z)
theorem cmpBack_of {pins : List (Addr × Obj)} {σ : L2.St} {Q : VK} {v : Value} {s : Shared} (h : EP X pins σ Q v s) : PySem.W.CmpBack (EP X pins σ Q) v s := by
  obtain ⟨x, H', I', r, q⟩ := id h
  cases v <;> first | exact h | exact absurd rfl (relV_noNI r)
/-- x op y, both instances of the class at C, by its own method -/
def rOwn2 (C : Addr) (sp : Sp) (E : XK) : R2 := fun x y H Q => ∃ a b dx dy fs gs, x = .ref a ∧ y = .ref b ∧ H a = some (.ins C dx fs) ∧ H b = some (.ins C dy gs) ∧ sp [.ref a, .ref b] H Q E
theorem op_own2 {op : Operator} (G0 : FnOk X.prog X.w X.K X.mg X.base CX n f fd ps sp) (hb : Binds X.K fd ps []) (hx : Passes CX X E) (hr : Room n X.A)
    (hs : PySem.W.findIn X.K (.ref C) (PySem.dunder op.info.2) = some (some (.ref f))) (hf : PySem.W.isFn X.K (.ref f) = true) (hc : PySem.W.selfFirst X.K C = true) : OpR X (binaryOp op) (rOwn2 C sp E) := by
  intro pins s σ H x y v u Q I rx ry h
  obtain ⟨a, b, dx, dy, fs, gs, rfl, rfl, ha, hb', q⟩ := h
  cases rx
  cases ry
  obtain ⟨mA, J, _⟩ := ins_get I.hok ha
  obtain ⟨mB, J', _⟩ := ins_get I.hok hb'
  obtain ⟨od, J, _⟩ := J.look
  obtain ⟨od', J', _⟩ := J'.look
  obtain ⟨m, hF⟩ := I.fr
  refine PySem.W.binop_K hF I.ok.mod.kin J J'.type hc hs hf ?_
  exact wpAny_mono (call_at G0 hb hx hr rfl I (vs := [.ref a, .ref b]) (.cons rfl (.cons rfl .nil)) q) (fun v s' z => cmpBack_of z) fun _ _ z => z
/-- x op k, x such an instance, k a whole number -/
def rOwnI (C : Addr) (sp : Sp) (E : XK) : R2 := fun x y H Q => ∃ a dx fs k, x = .ref a ∧ y = .int k ∧ H a = some (.ins C dx fs) ∧ sp [.ref a, .int k] H Q E
theorem op_ownI {op : Operator} {fo ro rc : Option Value} (G0 : FnOk X.prog X.w X.K X.mg X.base CX n f fd ps sp) (hb : Binds X.K fd ps []) (hx : Passes CX X E) (hr : Room n X.A)
    (hs : PySem.W.findIn X.K (.ref C) (PySem.dunder op.info.2) = some (some (.ref f))) (hf : PySem.W.isFn X.K (.ref f) = true) (hc : PySem.W.selfFirst X.K C = true)
    (hrr : PySem.W.findIn X.K (.ref C) (dunderR op.info.2) = some rc) (hp : rc = none ∨ ∃ g : Addr, rc = some (.ref g))
    (h1 : PySem.W.findIn X.K (.type "int") (PySem.dunder op.info.2) = some fo) (h2 : PySem.W.findIn X.K (.type "int") (dunderR op.info.2) = some ro) (hsub : PySem.W.subIn X.K (.type "int") (.ref C) = some false) :
    OpR X (binaryOp op) (rOwnI C sp E) := by
  intro pins s σ H x y v u Q I rx ry h
  obtain ⟨a, dx, fs, k, rfl, rfl, ha, q⟩ := h
  cases rx
  obtain ⟨t, rfl⟩ := ry
  obtain ⟨mA, J, _⟩ := ins_get I.hok ha
  obtain ⟨od, J, _⟩ := J.look
  obtain ⟨m, hF⟩ := I.fr
  refine PySem.W.ksp_binT (T := "int") hF I.ok.mod.kin J rfl hc hs hf hrr hp h1 h2 hsub ?_
  exact wpAny_mono (call_at G0 hb hx hr rfl I (vs := [.ref a, .int k]) (.cons rfl (.cons ⟨_, rfl⟩ .nil)) q) (fun v s' z => cmpBack_of z) fun _ _ z => z
/-- one-place operators of such an instance -/
def rOwn1 (C : Addr) (sp : Sp) (E : XK) : V → Hp → VK → Prop := fun x H Q => ∃ a dx fs, x = .ref a ∧ H a = some (.ins C dx fs) ∧ sp [.ref a] H Q E
theorem un_own (G0 : FnOk X.prog X.w X.K X.mg X.base CX n f fd ps sp) (hb : Binds X.K fd ps []) (hx : Passes CX X E) (hr : Room n X.A)
    (hs : PySem.W.findIn X.K (.ref C) "__neg__" = some (some (.ref f))) (hf : PySem.W.isFn X.K (.ref f) = true) : UnR X (unaryOp .USub) (rOwn1 C sp E) := by
  intro pins s σ H x v Q I rx h
  obtain ⟨a, dx, fs, rfl, ha, q⟩ := h
  cases rx
  obtain ⟨mA, J, _⟩ := ins_get I.hok ha
  obtain ⟨od, J, _⟩ := J.look
  obtain ⟨m, hF⟩ := I.fr
  exact PySem.W.ksp_neg hF I.ok.mod.kin J hs hf (call_at G0 hb hx hr rfl I (vs := [.ref a]) (.cons rfl .nil) q)
/-- abs(x), bool(x) of such an instance -/
theorem call_absOwn (G0 : FnOk X.prog X.w X.K X.mg X.base CX n f fd ps sp) (hb : Binds X.K fd ps []) (hx : Passes CX X E) (hr : Room (n + 1) X.A)
    (hs : PySem.W.findIn X.K (.ref C) "__abs__" = some (some (.ref f))) (hf : PySem.W.isFn X.K (.ref f) = true) :
    CallR X (.builtin "abs") (fun xs H Q => ∃ a dx fs, xs = [V.ref a] ∧ H a = some (.ins C dx fs) ∧ sp [.ref a] H Q E) := by
  intro pins s σ H xs us Q I r h
  obtain ⟨a, dx, fs, rfl, ha, q⟩ := h
  obtain ⟨u, rfl, r1⟩ := vals1 r
  cases r1
  obtain ⟨mA, J, _⟩ := ins_get I.hok ha
  obtain ⟨od, J, _⟩ := J.look
  refine PySem.Calls.call_function_entry kind_abs plain_abs entry_abs (args_abs _) ?_
  unfold Builtin.«abs»
  refine wpAny_bind (m := oneArg "abs" _) (wpAny_pure ?_)
  refine wpAny_bind (m := callSpecial? (.ref a) (Str.ofString "__abs__")) (PySem.W.special_fn I.kIn J hs (beq_iff_eq.mp hf) ?_)
  refine wpAny_mono (call_at G0 hb hx (A := X.A.in1) hr.in1 rfl I (vs := [.ref a]) (.cons rfl .nil) q) (fun v s' z => ?_) fun _ _ z => z
  exact wpAny_pure ⟨_, rfl, z⟩
theorem meets_bool_own (prog : Program) (w : World) (l : Addr) : MeetsIn prog w (Builtin.«bool.__new__» ⟨[.type "bool", .ref l], []⟩)
    (fun A R s => wpAny (model prog w) A.in1 (truthy (.ref l)) (fun b s' => R (.ok (.ret (.bool b))) s') (fun e s' => R (.error e) s') s) := by
  intro A R s hs
  have f1 := F.conv_sub_bool
  unfold Builtin.«bool.__new__»
  dsimp only
  repeat (any_goals (first | assumption | (with_reducible refine wpAny_mono hs (fun b s' z => ?_) (fun _ _ z => z)) | wp_step))
  all_goals first | exact z | skip
theorem call_boolOwn (G0 : FnOk X.prog X.w X.K X.mg X.base CX n f fd ps sp) (hb : Binds X.K fd ps []) (hx : Passes CX X E) (hr : Room (n + 2) X.A)
    (hs : PySem.W.findIn X.K (.ref C) "__bool__" = some (some (.ref f))) (hf : PySem.W.isFn X.K (.ref f) = true) :
    CallR X (.type "bool") (fun xs H Q => ∃ a dx fs, xs = [V.ref a] ∧ H a = some (.ins C dx fs) ∧ sp [.ref a] H (fun v H' => ∃ k, v = .bl k ∧ Q v H') E) := by
  intro pins s σ H xs us Q I r h
  obtain ⟨a, dx, fs, rfl, ha, q⟩ := h
  obtain ⟨u, rfl, r1⟩ := vals1 r
  cases r1
  obtain ⟨mA, J, _⟩ := ins_get I.hok ha
  obtain ⟨od, J, _⟩ := J.look
  obtain ⟨m, hF⟩ := I.fr
  refine callType_newIn F.called_bool F.newNe_bool (F.typeCall_bool_1 _) (F.newCall_bool_1 _) (fun obj => F.args_object_init_2 obj _) F.entry_bool_new (meets_bool_own X.prog X.w a) ?_
  refine PySem.W.truthy_K hF I.ok.mod.kin J hs hf ?_
  refine wpAny_mono (call_at G0 hb hx (A := X.A.in1.in1) hr.in1.in1 rfl I (vs := [.ref a]) (.cons rfl .nil) q) (fun v s' z => ?_) fun _ _ z => z
  obtain ⟨x, H', I', r, k, rfl, q'⟩ := z
  cases r
  exact ⟨PySem.typeIs_bool _ _, .bl k, H', I', rfl, q'⟩
/-- == of two such instances -/
def rOwnEq (C : Addr) (sp : Sp) (E : XK) : R2 := fun x y H Q => ∃ a b dx dy fs gs, x = .ref a ∧ y = .ref b ∧ H a = some (.ins C dx fs) ∧ H b = some (.ins C dy gs) ∧ sp [.ref a, .ref b] H Q E
theorem op_eqOwn (G0 : FnOk X.prog X.w X.K X.mg X.base CX n f fd ps sp) (hb : Binds X.K fd ps []) (hx : Passes CX X E) (hr : Room n X.A)
    (hs : PySem.W.findIn X.K (.ref C) "__eq__" = some (some (.ref f))) (hf : PySem.W.isFn X.K (.ref f) = true) : OpR X (compareOp .Eq) (rOwnEq C sp E) := by
  intro pins s σ H x y v u Q I rx ry h
  obtain ⟨a, b, dx, dy, fs, gs, rfl, rfl, ha, hb', q⟩ := h
  cases rx
  cases ry
  obtain ⟨mA, J, _⟩ := ins_get I.hok ha
  obtain ⟨mB, J', _⟩ := ins_get I.hok hb'
  obtain ⟨od, J, _⟩ := J.look
  obtain ⟨od', J', _⟩ := J'.look
  obtain ⟨m, hF⟩ := I.fr
  show wpAny (model X.prog X.w) X.A (richCompare .Eq (.ref a) (.ref b)) (EP X pins σ Q) X.xe s
  refine PySem.W.cmp_K (op := .Eq) (tb := .ref C) hr.units0 hF I.ok.mod.kin J J'.type (by simp [PySem.W.notFirst]) hs hf ?_
  exact wpAny_mono (call_at G0 hb hx hr rfl I (vs := [.ref a, .ref b]) (.cons rfl (.cons rfl .nil)) q) (fun v s' z => cmpBack_of z) fun _ _ z => z
end
end My
set_option maxRecDepth 100000
namespace My
open PySem PySem.Spec PyProof.Rows L2
open ClX (CRead)
section
variable {X : Cx} {CX : CXT} {n k : Nat} {f C : Addr} {fd : FuncData} {ps : List Str} {sp : Sp} {E : XK}
/-- str(x) of an instance with its own __str__ -/
theorem call_strOwn (G0 : FnOk X.prog X.w X.K X.mg X.base CX n f fd ps sp) (hb : Binds X.K fd ps []) (hx : Passes CX X E) (hr : Room (n + 2) X.A)
    (hs : PySem.W.findIn X.K (.ref C) "__str__" = some (some (.ref f))) (hf : PySem.W.isFn X.K (.ref f) = true) :
    CallR X (.type "str") (fun xs H Q => ∃ a dx fs, xs = [V.ref a] ∧ H a = some (.ins C dx fs) ∧ sp [.ref a] H (fun v H' => ∃ z, v = .str z ∧ Q v H') E) := by
  intro pins s σ H xs us Q I r h
  obtain ⟨a, dx, fs, rfl, ha, q⟩ := h
  obtain ⟨u, rfl, r1⟩ := vals1 r
  cases r1
  obtain ⟨mA, J, _⟩ := ins_get I.hok ha
  obtain ⟨od, J, _⟩ := J.look
  refine PySem.W.kso_call (hr.in1.in1.units0) I.kIn J hs hf ?_
  refine wpAny_mono (call_at G0 hb hx (A := X.A.in1.in1) hr.in1.in1 rfl I (vs := [.ref a]) (.cons rfl .nil) q) (fun v s' z => ?_) fun _ _ z => z
  obtain ⟨x, H', I', r, y, rfl, q'⟩ := z
  obtain ⟨t, rfl⟩ := r
  exact ⟨.str y, H', I', ⟨_, rfl⟩, q'⟩
/-- C.m is a staticmethod: its record at p, its def at g -/
structure SMet (K : PySem.W.Frag) (C : Addr) (mc : Value) (m : Str) (p g : Addr) : Prop where
  at_ : PySem.W.findCls K (.ref C) mc m = some (.get (.builtin "staticmethod.__get__") (.ref p) .none (.ref C))
  rc : ∃ rest, PySem.W.recIn K p "staticmethod" = some (.ref g :: rest)
  kp : PySem.W.keepIn K (.ref g) = true
theorem getmethsm_ok {pins : List (Addr × Obj)} {σ : L2.St} {H : Hp} {s : Shared} {p g : Addr} {mc : Value} {m : Str} {A : Around} {E : Value → Shared → Prop} {pl : Sem Bool} {Q : Value × List Value → Shared → Prop} (I : Inv X pins σ H s) (r : CRead X.K C mc) (k : SMet X.K C mc m p g)
    (h : ∀ s', Inv X pins σ H s' → Q (.ref g, []) s') : wpAny (model X.prog X.w) A (getMethod (.ref C) m pl) Q E s := by
  refine PySem.W.method_cls I.kIn r.ga ?_
  obtain ⟨rest, hp⟩ := k.rc
  refine PySem.W.cls_bind I.kIn r.rd k.at_ ?_
  refine wpAny_call (PySem.W.sm_get (s := { s with toks := s.toks + 1 }) I.kIn hp (PySem.W.handed_on rfl ?_))
  exact h _ (I.tok _)
/-- C.m(e, ..), m a staticmethod of the class at C -/
def tSMeth (C : Addr) (sp : Sp) (dvs : List V) (E : XK) (ta : TE) (t : TA) : TE := fun σ H Q => ta σ H fun x H1 => x = .ref C ∧ t σ H1 fun vs H2 => sp (vs ++ dvs) H2 Q E
theorem pe_smeth {o e : Expr} {es : List Expr} {p g : Addr} {mc : Value} {m : Str} {pos apos : Pos} {ta : TE} {t : TA} {pl : Sem Bool} {ds : List Value} {dvs : List V} (he : PE X o ta) (r : CRead X.K C mc) (c : SMet X.K C mc m p g)
    (G0 : FnOk X.prog X.w X.K X.mg X.base CX k g fd ps sp) (hr : Room k X.A) (hb : Binds X.K fd ps ds) (hd : Vals dvs ds) (hx : Passes CX X E) (ha : PA X (e :: es) t)
    (hst : starEach (e :: es) X.env = (false, eval e X.env) :: starEach es X.env := by rfl) (hpl : (backTo pos (starEach es X.env)).any (·.1) = false := by rfl)
    (ht : eval (.Call (.Attribute o m apos) (e :: es) [] pos) X.env = (do
      let ov ← eval o X.env
      standAt apos.atName
      let (f, first) ← holding [ov] (getMethod ov m pl)
      callWith pos f first (backTo pos (starEach (e :: es) X.env)) (backToKw pos (keywordEach [] X.env))) := by rfl) :
    PE X (.Call (.Attribute o m apos) (e :: es) [] pos) (tSMeth C sp dvs E ta t) := by
  refine ⟨fun pins s σ H Q I h => ?_⟩
  refine PySem.W.methodCall_KW (pl := pl) (thn (he.run pins s σ H _ I h) fun u s1 ⟨x, H1, I1, rx, ex, q⟩ => ?_) ht
  subst ex
  obtain rfl : u = Value.ref C := rx
  refine getmethsm_ok I1 r c fun s2 I2 => ?_
  refine PySem.W.callWith_K (h₀ := X.base) I2.ok.mod.kin c.kp (thn (ha.run pos pins s2 σ H1 _ I2 q) fun us s3 ⟨vs, H2, I3, r3, q3⟩ => ⟨I3.kIn, ?_⟩) hst hpl
  exact run_fn G0 hr hb hd hx I3 r3 q3
/-- C(e, ..) where what its __init__ raises is wished for -/
def tMakeS (C : Addr) (sp : Sp) (E : L2.St → XK) (t : TA) : TE := fun σ H Q => t σ H fun vs H1 => ∀ x dx, H1 x = none → H1 dx = none → dx ≠ x →
  sp (.ref x :: vs) (upd (upd H1 dx (.own x)) x (.ins C dx [])) (fun v H2 => v = .non ∧ Q (.ref x) H2) (E σ)
theorem run_makeS {E : L2.St → XK} {pins : List (Addr × Obj)} {σ : L2.St} {H : Hp} {s : Shared} {Q : VK} {us : List Value} {vs : List V} (M : Mk X.K C f) (G0 : FnOk X.prog X.w X.K X.mg X.base CX k f fd ps sp) (hr : Room (k + 1) X.A) (hb : Binds X.K fd ps [])
    (hx : PassesAt CX X σ (E σ)) (I : Inv X pins σ H s) (r : Vals vs us)
    (h : ∀ x dx, H x = none → H dx = none → dx ≠ x → sp (.ref x :: vs) (upd (upd H dx (.own x)) x (.ins C dx [])) (fun v H2 => v = .non ∧ Q (.ref x) H2) (E σ)) :
    wpAny (model X.prog X.w) X.A (call (.ref C) us) (EP X pins σ Q) X.xe s := by
  have hq := h (s.heap.objs.size + 1) s.heap.objs.size (I.hok.fresh (Nat.le_succ _)) (I.hok.fresh (Nat.le_refl _)) (Nat.ne_of_lt (Nat.lt_succ_self _))
  have I2 := Inv.made (C := C) I
  have r2 : Vals (V.ref (s.heap.objs.size + 1) :: vs) (Value.ref (s.heap.objs.size + 1) :: us) := .cons rfl r
  have hl : (Value.ref (s.heap.objs.size + 1) :: us).length = ps.length := by
    have e := r2.length
    rw [G0.len _ _ _ _ hq] at e
    exact e.symm
  have b := hb _ (Value.ref (s.heap.objs.size + 1) :: us) I2.kIn (by rw [List.append_nil]; exact hl)
  rw [List.append_nil] at b
  refine wpAny_call (make_map (f := f) I.kIn M.makes M.init (beq_iff_eq.mp M.fn) (codeAny_mono (G0.run _ X.stack _ _ ⟨Value.ref (s.heap.objs.size + 1) :: us, []⟩ (Value.ref (s.heap.objs.size + 1) :: us) _ _ (E σ) (hr.make C us [])
    (I2.env0.make C us []) b r2 hq) fun r s' hq' => ?_))
  cases r with
  | error e => exact hx pins _ _ e s' I2 hq'
  | ok fl =>
    cases fl with
    | ret u =>
      obtain ⟨v, H', I3, rv, ev, q3⟩ := I2.after hq'
      subst ev
      exact ⟨rv, ⟨V.ref (s.heap.objs.size + 1), H', I3, rfl, q3⟩⟩
    | next => exact False.elim hq'
    | brk => exact False.elim hq'
    | cont => exact False.elim hq'
theorem pe_makeS {E : L2.St → XK} {x : Str} {p pos : Pos} {e : Expr} {es : List Expr} {t : TA} (M : Mk X.K C f) (G0 : FnOk X.prog X.w X.K X.mg X.base CX k f fd ps sp) (hr : Room (k + 1) X.A) (hg : Gl X x) (hm : X.mg x = some (.ref C)) (hb : Binds X.K fd ps []) (hx : ∀ σ, PassesAt CX X σ (E σ))
    (ha : PA X (e :: es) t) (hdb : (x == ("__debug__" : Str)) = false := by decide) (he : starEach (e :: es) X.env = (false, eval e X.env) :: starEach es X.env := by rfl) (hpl : (backTo pos (starEach es X.env)).any (·.1) = false := by rfl) :
    PE X (.Call (.Name x p) (e :: es) [] pos) (tMakeS C sp E t) := by
  refine ⟨fun pins s σ H Q I h => ?_⟩
  refine wpAny_Call_Name_kw (ld_glob I hg hm ?_ hdb)
  refine PySem.W.callWith_K (h₀ := X.base) I.ok.mod.kin M.kp (thn (ha.run pos pins s σ H _ I h) fun us s1 ⟨vs, H1, I1, r, q⟩ => ⟨I1.kIn, ?_⟩) he hpl
  exact run_makeS M G0 hr hb (hx σ) I1 r q
end
/-- isinstance(e, c) in an except suite of any error -/
theorem call_isEx {X : Cx} {a : Addr} {oe : Obj} {cls : Value} {d : Option Addr} {pn : List (Addr × Obj)} (hz : Zc cls d oe) (hf : ∃ vs, oe.data = .fields vs) :
    CallR (X.suite a ((a, oe) :: pn)) (.builtin "isinstance") (fun xs H Q => ∃ D, cls = .ref D ∧ d = none ∧ ExcC X.K D ∧ rIsE X.K D a xs H Q) := by
  intro pins s σ H xs us Q I r h
  obtain ⟨D, rfl, rfl, c, q⟩ := h
  exact call_isE c hz hf pins s σ H xs us Q I r q
/-- an own class against an own class, against a built-in one -/
theorem kit_own {K : PySem.W.Frag} {C D : Addr} {b : Bool} (hi : PySem.W.isClsIn K D = true) (ht : PySem.W.typeIn K (.ref D) = some (.type "type")) (hs : PySem.W.subIn K (.ref C) (.ref D) = some b) (hne : C ≠ D ∨ b = true) : PySem.W.kitOne K (.ref C) (.ref D) = some b := by
  unfold PySem.W.kitOne
  by_cases e : C = D
  · rcases hne with h | h
    · exact absurd e h
    · rw [if_pos (by rw [e]; simp), h]
  · rw [if_neg (by simp [e])]
    show (if ((PySem.W.clsIn K D).isSome && PySem.W.typeIn K (.ref D) == some (.type "type")) = true then _ else _) = _
    rw [if_pos (by
      rw [ht]
      have : (PySem.W.clsIn K D).isSome = true := hi
      rw [this]; simp)]
    exact hs
theorem kit_ownT {K : PySem.W.Frag} {C : Addr} {T : String} {b : Bool} (hm : PySem.W.kitMeta T = true) (hs : PySem.W.subIn K (.ref C) (.type T) = some b) : PySem.W.kitOne K (.ref C) (.type T) = some b := by
  unfold PySem.W.kitOne PySem.W.kitCls
  rw [if_neg (by simp)]
  show (if PySem.W.kitMeta T = true then _ else _) = _
  rw [if_pos hm]
  exact hs
end My
set_option maxRecDepth 100000
set_option maxHeartbeats 1000000
/-! own exceptions whose __init__ says super().__init__(text) and then stores its fields -/
namespace My
open PySem PySem.Spec PyProof.Rows L2
/-- the names of such a def: its parameters are local, nothing is a cell, __class__ alone is free -/
structure SupScope (N ps : List Str) (sc : Scope) : Prop where
  kind : sc.kind = .function
  co : sc.isCoroutine = false
  gen : sc.isGenerator = false
  nd : ps.Nodup
  eqN : N = ps
  par : ∀ x ∈ ps, sc.names.lookup x = some .local
  nocell : ∀ y ∈ sc.names, y.2 ≠ .cell
  free : ∀ y ∈ sc.names, y.2 = .free → y.1 = "__class__"
  ks : sc.names.lookup ("super" : Str) = some .globalImplicit
  kc : sc.names.lookup ("__class__" : Str) = some .free
/-- the context of its body -/
def cxSup (CX : CXT) (P : Program) (w : World) (K : PySem.W.Frag) (mg : Str → Option Value) (base : Heap) (N : List Str) (qual : Str) (scope : Scope) (f : Addr) (cd : Value) (cc : Addr) (A : Around) (outer : List Env) (s : Shared) (H : Hp) (E : XK) : Cx where
  prog := P
  w := w
  K := K
  mg := mg
  base := base
  A := A.deeper (PySem.W.ksEnv qual scope s.heap.objs.size f cd cc)
  N := N
  s_0 := s
  H_0 := H
  env := PySem.W.ksEnv qual scope s.heap.objs.size f cd cc
  outer := outer
  stack := PySem.W.ksEnv qual scope s.heap.objs.size f cd cc :: outer
  ex := []
  calm := true
  fn := fun _ => false
  pn := []
  xe := fun e s' => wpAny (model P w) (A.deeper (PySem.W.ksEnv qual scope s.heap.objs.size f cd cc)) (leaving (PySem.W.ksEnv qual scope s.heap.objs.size f cd cc) e) (fun _ s'' => CX outer H s E e s'') (fun e' s'' => CX outer H s E e' s'') s'
theorem lookup_of_mem {l : List (Str × Value)} {y : Str} {u : Value} (nd : (l.map (·.1)).Nodup) (h : (y, u) ∈ l) : l.lookup y = some u := by
  induction l with
  | nil => cases h
  | cons p r ih =>
    obtain ⟨z, v⟩ := p
    rw [List.map_cons, List.nodup_cons] at nd
    rcases List.mem_cons.mp h with e | e
    · cases e; simp [List.lookup]
    · have hne : y ≠ z := fun q => nd.1 (by rw [← q]; exact List.mem_map.mpr ⟨_, e, rfl⟩)
      have : (y == z) = false := by simpa using hne
      simp only [List.lookup, this]
      exact ih nd.2 e
theorem map_fst_zip_sub : ∀ (ps : List Str) (us : List Value), ((ps.zip us).map (·.1)).Sublist ps
  | [], _ => by simp
  | _ :: _, [] => by simp
  | p :: ps, u :: us => by simpa using map_fst_zip_sub ps us
theorem nd_rev {l : List Str} (h : l.Nodup) : l.reverse.Nodup := by
  induction l with
  | nil => simp
  | cons a t ih =>
    rw [List.nodup_cons] at h
    rw [List.reverse_cons, List.nodup_append]
    exact ⟨ih h.2, by simp, fun x hx y hy e => h.1 (by simp at hy; rw [← hy, ← e]; simpa using hx)⟩
theorem zip_lookup {ps : List Str} {us : List Value} {i : Nat} {y : Str} {u : Value} (nd : ps.Nodup) (h1 : ps[i]? = some y) (h2 : us[i]? = some u) : (ps.zip us).reverse.lookup y = some u := by
  refine lookup_of_mem ?_ ?_
  · rw [List.map_reverse]
    have : ((ps.zip us).map (·.1)).Nodup := by
      exact nd.sublist (map_fst_zip_sub ps us)
    exact nd_rev this
  · rw [List.mem_reverse]
    have : (ps.zip us)[i]? = some (y, u) := by rw [List.getElem?_zip_eq_some]; exact ⟨h1, h2⟩
    exact List.mem_of_getElem? this
section
variable {CX : CXT} {P : Program} {w : World} {K : PySem.W.Frag} {mg : Str → Option Value} {base : Heap} {N ps : List Str} {qual : Str} {scope : Scope} {f cc : Addr} {cd : Value} {A : Around} {outer : List Env} {s : Shared} {H : Hp} {E : XK}
theorem env_cells {x : Str} {c : Addr} {L : Addr} (h : (PySem.W.ksEnv qual scope L f cd cc).cells.lookup x = some c) : x = "__class__" ∧ c = cc := by
  have h' : ([(("__class__" : Str), cc)] : List (Str × Addr)).lookup x = some c := h
  by_cases e : x = "__class__"
  · subst e
    simp [List.lookup] at h'
    exact ⟨rfl, h'.symm⟩
  · have : (x == ("__class__" : Str)) = false := by simpa using e
    simp [List.lookup, this] at h'
theorem inv_sup {us : List Value} {vs : List V} {h1 : Heap} {t : Nat} {cl : Value} {cld : Option Addr} {cv : Option Value} {csl : Array (Option Value)} (S : SupScope N ps scope) (hd : A.handled = none) (e0 : Env0 P w K mg base A outer s H) (hl : vs.length = ps.length) (r : Vals vs us)
    (hcell : K.lookup cc = some ⟨cl, cld, .cell cv, csl⟩)
    (hns : h1.Ns s.heap.objs.size (fun x => (ps.zip us).reverse.lookup x)) (hk : ∀ b o, s.heap.get? b = some o → h1.get? b = some o) :
    Inv (cxSup CX P w K mg base N qual scope f cd cc A outer s H E) [] (L2.start N vs) H { s with heap := h1, toks := t } := by
  have noA : ∀ b : Addr, b ∉ (cxSup CX P w K mg base N qual scope f cd cc A outer s H E).ex := fun b z => absurd (show b ∈ ([] : List Addr) from z) (by simp)
  have hcb := e0.mod.kin _ _ hcell
  refine ⟨⟨e0.mod, S.kind, rfl, rfl, Nat.le_refl _, fun y z c h1 h2 => (env_cells h1).1.trans (env_cells h2).1.symm, fun y hy => ?_, fun y c h _ => absurd h Bool.false_ne_true, fun _ => hd, Around.frames_deeper e0.frames, .inr ⟨rfl, rfl⟩, fun b z => absurd z (noA b), e0.bs, e0.bsz, fun b _ _ => noA b, fun b z => absurd z (noA b), e0.funs, e0.frf⟩,
    rfl, e0.bare, Un.kept hk, ⟨_, hns, fun i y v h1 h2 h3 => ?_⟩, fun y c h => ?_, e0.hok.fresh (Nat.le_refl _), fun y c h => ?_, fun p hp => absurd (show p ∈ ([] : List (Addr × Obj)) from hp) (by simp), e0.hok.kept hk, ?_⟩
  · have hy : scope.names.lookup y = some .cell ∨ scope.names.lookup y = some .free := hy
    rcases hy with hy | hy
    · exact absurd rfl (S.nocell _ (PySem.mem_of_lookup hy))
    · have e := S.free _ (PySem.mem_of_lookup hy) rfl
      refine ⟨cc, ?_⟩
      show ([(("__class__" : Str), cc)] : List (Str × Addr)).lookup y = some cc
      have e' : y = "__class__" := e
      rw [e']
      simp [List.lookup]
  · have hlen : N.length = vs.length := by rw [S.eqN, hl]
    have e2 : L2.start N vs = vs.map some := by unfold L2.start; rw [hlen, Nat.sub_self]; simp
    rw [e2, List.getElem?_map] at h2
    cases ea : vs[i]? with
    | none => rw [ea] at h2; cases h2
    | some a =>
      rw [ea] at h2
      cases h2
      obtain ⟨u, hu, rv⟩ := r.get ea
      have hp : ps[i]? = some y := by rw [← S.eqN]; exact h1
      exact ⟨u, rv, .inl ⟨S.par y (List.mem_of_getElem? hp), zip_lookup S.nd hp hu⟩⟩
  · obtain ⟨rfl, rfl⟩ := env_cells h
    exact ⟨cv, _, hk _ _ (e0.bs _ _ hcb).1, rfl⟩
  · obtain ⟨rfl, rfl⟩ := env_cells h
    exact (e0.bs _ _ hcb).2
  · unfold L2.start
    show _ = N.length
    rw [List.length_append, List.length_map, List.length_replicate, S.eqN]
    omega
end
open PySem.W (ksFn ksEnv)
/-- what the written part says of such a class -/
structure SupCls (P : Program) (K : PySem.W.Frag) (mg : Str → Option Value) (C : Addr) : Prop where
  cd : ∃ cd, PySem.W.clsIn K C = some cd
  mro : PySem.W.mroIn K C (.ref C) = some true
  sup : PySem.W.ks_superIn K C C "__init__" = some (some (.builtin "ValueError.__init__"))
  opq : PySem.W.nsIn K PySem.cStatics "thirdparty.any" = some none
  ve : PySem.W.subIn K (.ref C) (.type "ValueError") = some true
  mgs : mg "super" = none
  top : (P.main.scope.names.lookup ("super" : Str)).isSome = false
  ox : OexC K C
/-- and of its __init__ -/
structure SupFn (P : Program) (K : PySem.W.Frag) (st : Stmt) (qual : Str) (C f : Addr) (fd : FuncData) : Prop where
  ex : ∃ (oc : Value) (od : Option Addr) (kV doc pm : Value) (an : Option Addr) (cda : Addr) (ct : Value) (cc : Addr) (sl : Array (Option Value)),
    fd = ksFn "__init__" qual (defArgs st) (defBody st) (defScope st) .none kV doc pm an (.ref cda) ct cc ∧ K.lookup f = some ⟨oc, od, .func fd, sl⟩ ∧ PySem.W.codeIn K (.ref cda) qual = true ∧
    (∃ (a : Value) (b : Option Addr) (vs : Array Value) (d : Array (Option Value)) (file : Str) (tf : Tok), K.lookup cda = some ⟨a, b, .fields vs, d⟩ ∧ vs[2]? = some (.str file tf) ∧ ((P.main.file : Str) == file) = true) ∧
    ∃ (a : Value) (b : Option Addr) (d : Array (Option Value)), K.lookup cc = some ⟨a, b, .cell (some (.ref C)), d⟩
section
variable {CX : CXT} {P : Program} {w : World} {K : PySem.W.Frag} {mg : Str → Option Value} {base : Heap} {N ps : List Str} {qual : Str} {scope : Scope} {f cc cda C a : Addr} {A : Around} {outer : List Env} {s0 : Shared} {H0 : Hp} {E : XK}
variable {oc : Value} {od : Option Addr} {fd : FuncData} {sl : Array (Option Value)} {vs : Array Value} {file : Str} {tf : Tok}
theorem mw_call {X : Cx} {pins : List (Addr × Obj)} {σ : L2.St} {H : Hp} {s : Shared} {u : Addr} {us : List Value} {Q : Value → Shared → Prop} {B : Around} {EE : Value → Shared → Prop} (T : OexC X.K C) (I : Inv X ((u, PySem.W.kxs_mw "ValueError.__init__" a) :: pins) σ H s)
    (ea : H a = some (exo a C none)) (hz : us.length ≤ sizeLine) (q : ∀ s', Inv X ((u, PySem.W.kxs_mw "ValueError.__init__" a) :: pins) σ H s' → Q .none s') :
    wpAny (model X.prog X.w) B (call (.ref u) us) Q EE s := by
  obtain ⟨nm, q0, N0, bs, bm, sn, sub, ab, col, dd, k0, k1, k2, k3, k5, hC, hbm⟩ := T.cls
  obtain ⟨t1, ho⟩ := exo_at I.hok ea
  have hu := ClX.pin_at I
  have KX := I.kIn
  have eu : upd H a (exo a C none) = H := by
    funext b
    by_cases hb : b = a
    · rw [hb, upd_same, ea]
    · rw [upd_ne hb]
  have T1 : (Value.type "method-wrapper" == Value.type "method" || Value.type "method-wrapper" == Value.type "builtin_function_or_method" || Value.type "method-wrapper" == Value.type "method-wrapper") = true := by decide
  obtain ⟨hp, g, d, t, os⟩ := s
  refine wpAny_call (codeAny_of_tree ?_)
  show wpAny _ _ (callAny (.ref u) ⟨us, []⟩) _ _ _
  unfold callAny
  refine wpAny_bind (wpAny_load hu ?_)
  simp only [PySem.W.kxs_mw, T1, if_true]
  refine PySem.W.KFB.if_so (by decide) ?_
  refine wpAny_bind (PySem.W.check_bound_init F.excBase_ValueError.toExcCallFacts (KX _ _ hC) ho rfl ?_)
  refine wpAny_bind (wpAny_pure (wpAny_pure ⟨PySem.plainId_quiet F.excBase_ValueError.init.plain _, codeAny_builtin F.excBase_ValueError.initEntry ?_⟩))
  refine PySem.W.exc_init_tree (cls := .ref C) (t0 := t1) (dv := none) (c2 := .none) (c3 := .none) (b4 := .bool false) ho hz fun h' k e1 _ => ?_
  have J := I.write (t' := t) (x := a) (e := a) (o := exo a C none) (by rw [ea]; exact True.intro) (.inl rfl) k ⟨_, e1⟩ (exo_ok e1)
  rw [eu] at J
  exact q _ J

/-- super().__init__(e, ..) at the head of the body -/
theorem sup_run {an : Option Addr} {kV doc pm ct : Value} {body : List Stmt} {args : Arguments} {σ : L2.St} {H : Hp} {s : Shared} {ta : TA} {e : Expr} {es : List Expr} {p0 p1 p2 p3 p4 : Pos} {ar : Arg} {Q : Flow → Shared → Prop}
    (S : SupScope N ps scope) (D : SupCls P K mg C)
    (lk : K.lookup f = some ⟨oc, od, .func (ksFn "__init__" qual args body scope .none kV doc pm an (.ref cda) ct cc), sl⟩) (har : (args.posonlyargs ++ args.args).head? = some ar)
    (lc : ∃ (a : Value) (b : Option Addr) (vs : Array Value) (d : Array (Option Value)) (file : Str) (tf : Tok), K.lookup cda = some ⟨a, b, .fields vs, d⟩ ∧ vs[2]? = some (.str file tf) ∧ ((P.main.file : Str) == file) = true)
    (lq : ∃ (a : Value) (b : Option Addr) (d : Array (Option Value)), K.lookup cc = some ⟨a, b, .cell (some (.ref C)), d⟩)
    (I : Inv (cxSup CX P w K mg base N qual scope f (.ref cda) cc A outer s0 H0 E) [] σ H s) (h0 : σ[0]? = some (some (.ref a))) (hN : N[0]? = some ar.arg) (hloc : scope.names.lookup ar.arg = some .local)
    (ea : H a = some (exo a C none)) (hes : PA (cxSup CX P w K mg base N qual scope f (.ref cda) cc A outer s0 H0 E) (e :: es) ta)
    {R : Hp → Prop} (q : ta σ H fun us H1 => us.length ≤ 1000 ∧ H1 a = some (exo a C none) ∧ R H1)
    (cont : ∀ H1 s', R H1 → Inv (cxSup CX P w K mg base N qual scope f (.ref cda) cc A outer s0 H0 E) [] σ H1 s' → Q .next s')
    (he : starEach (e :: es) (ksEnv qual scope s0.heap.objs.size f (.ref cda) cc) = (false, eval e (ksEnv qual scope s0.heap.objs.size f (.ref cda) cc)) :: starEach es (ksEnv qual scope s0.heap.objs.size f (.ref cda) cc))
    (hpl : (backTo p3 (starEach es (ksEnv qual scope s0.heap.objs.size f (.ref cda) cc))).any (·.1) = false) 
    (hsw : swapsWith (.Call (.Attribute (.Call (.Name "super" p0) [] [] p1) "__init__" p2) (e :: es) [] p3) none p4.line (ksEnv qual scope s0.heap.objs.size f (.ref cda) cc) = pure false)
    {pl : Sem Bool} (hcall : eval (.Call (.Attribute (.Call (.Name "super" p0) [] [] p1) "__init__" p2) (e :: es) [] p3) (ksEnv qual scope s0.heap.objs.size f (.ref cda) cc) = (do
      let ov ← attributeBase (.Call (.Name "super" p0) [] [] p1) "__init__" (ksEnv qual scope s0.heap.objs.size f (.ref cda) cc) (eval (.Call (.Name "super" p0) [] [] p1) (ksEnv qual scope s0.heap.objs.size f (.ref cda) cc))
      standAt p2.atName
      let (fx, first) ← holding [ov] (getMethod ov "__init__" pl)
      callWith p3 fx first (backTo p3 (starEach (e :: es) (ksEnv qual scope s0.heap.objs.size f (.ref cda) cc))) []))
    (B : List Stmt) :
    PySem.wpAt (model P w) (A.deeper (ksEnv qual scope s0.heap.objs.size f (.ref cda) cc)) (.func B (ksEnv qual scope s0.heap.objs.size f (.ref cda) cc))
      (exec (.Expr (.Call (.Attribute (.Call (.Name "super" p0) [] [] p1) "__init__" p2) (e :: es) [] p3) p4) (ksEnv qual scope s0.heap.objs.size f (.ref cda) cc)) Q (cxSup CX P w K mg base N qual scope f (.ref cda) cc A outer s0 H0 E).xe s := by
  have KX : K.In s.heap := I.kIn
  obtain ⟨t1, hoe⟩ := exo_at I.hok ea
  obtain ⟨m, hn, hl⟩ := I.loc
  obtain ⟨u, ru, look⟩ := hl 0 ar.arg (.ref a) hN h0 (Or.inl hloc)
  obtain rfl : u = Value.ref a := ru
  have hm : m ar.arg = some (.ref a) := by
    rcases look with z | ⟨z, _⟩
    · exact z.2
    · have z : scope.names.lookup ar.arg = some .cell ∨ scope.names.lookup ar.arg = some .free := z
      rw [hloc] at z
      rcases z with z | z <;> cases z
  obtain ⟨c1, c2, vs, c3, file, tf, hcode, hvs, hfile⟩ := lc
  obtain ⟨c4, c5, c6, hcell⟩ := lq
  obtain ⟨cd, hcd⟩ := D.cd
  obtain ⟨mb, hb1, hb2⟩ := I.mod.blt
  obtain ⟨oD, hD1, hD2⟩ : ∃ oD, s.heap.get? C = some oD ∧ oD.data = .cls cd := by
    unfold PySem.W.clsIn at hcd
    split at hcd
    · rename_i ho
      cases hcd
      exact ⟨_, KX _ _ ho, rfl⟩
    · cases hcd
  obtain ⟨hh, g, d, t, os⟩ := s
  refine ks_wpAt_Expr_any ?_ I.quiet hsw
  refine ks_wpAt_MethodCall (he := hcall) ?_
  refine ks_wpAt_super_base (ar := ar) S.ks S.kc rfl rfl (KX _ _ lk) rfl har rfl (KX _ _ hcode) rfl hvs hfile D.top ?_
  refine PySem.W.ks_loadName_global S.kind S.ks (Calls.loadGlobal_builtin (I.mod.glob.keeps I.bk) D.mgs (hb1.keeps I.bk) ((hb2 _ (by decide)).trans PyProof.Rows.Boot.«super») ⟨rfl, ?_⟩)
  refine wpAny_loadName_free S.kind S.kc rfl ⟨_, KX _ _ hcell, rfl⟩ ?_
  refine wpAny_loadName_local S.kind hloc hn hm ?_
  refine ks_wpAny_isType_cls hD1 hD2 ⟨rfl, ?_⟩
  refine ks_wpAny_call_super hD1 hD2 hoe rfl (fun c z => by cases z) (PySem.W.looks_mroIn KX D.mro) (fun h' e1 k => ?_)
  have I1 := ClX.pin_new (t' := t) I k (Nat.le_refl _) e1 (fun v z => by cases z)
  have KX1 : K.In h' := I1.kIn
  have hca : a ≠ C := fun z => by
    subst z
    rw [hoe] at hD1
    cases hD1
    cases hD2
  have hsI : PySem.W.Looks (model P w) h' (isInstance (.ref a) (.type "ValueError")) true := by
    have II : PySem.W.InstAt h' a _ C none := ⟨k _ _ hoe, rfl, rfl, trivial⟩
    exact II.type.andThen (PySem.W.looks_subIn KX1 D.ve)
  have hsup := D.sup
  unfold PySem.W.ks_superIn at hsup
  rw [hcd] at hsup
  refine PySem.W.kxs_getMethod PySem.W.kxs_ValueError e1 (PySem.W.looks_opaque KX1 D.opq) (l₀ := cd.mro) (fun A Q E s k q => wpAny_bind ((PySem.W.looks_clsIn KX1 hcd) A _ E s k (wpAny_pure q))) rfl KX1 hsup hsI hca rfl ?_
  have I2 := ClX.pin_new (t' := t + 1) I1 (h' := h'.push (PySem.W.kxs_mw "ValueError.__init__" a)) (o := PySem.W.kxs_mw "ValueError.__init__" a) (fun b o z => Heap.get?_push_of_some _ z) (Nat.le_refl _) (Heap.get?_push_at rfl rfl) (fun v z => by cases z)
  dsimp only
  rw [he]
  refine PySem.W.kxs_callWith (i := "ValueError.__init__") (x := a) (by show (false || (backTo p3 (starEach es _)).any (·.1)) = false; rw [hpl]; rfl) (Calls.evalArgs_plain ?_)
  have run := hes.run p3 _ _ σ H _ I2 q
  rw [show starEach (e :: es) (cxSup CX P w K mg base N qual scope f (.ref cda) cc A outer s0 H0 E).env = _ from he] at run
  refine thn run fun us s1 ⟨xs, H1, I3, r1, hz, ea1, q1⟩ => ⟨ClX.pin_at I3, ?_⟩
  have hlen : us.length ≤ sizeLine := by
    rw [← Paired.length r1, sizeLine_eq]
    omega
  exact mw_call D.ox I3 ea1 hlen fun s' J => cont _ s' q1 (ClX.unpin (ClX.unpin J))

/-- such an __init__, by what it says behind super() -/
theorem sup_ok {st : Stmt} {fd : FuncData} {k : Nat} {sp : Sp} {body : List Stmt} {e : Expr} {p0 p1 p2 p3 p4 : Pos} {ar : Arg} {pl : Sem Bool} (F : SupFn P K st qual C f fd) (S : SupScope N ps (defScope st)) (D : SupCls P K mg C)
    (hb : defBody st = .Expr (.Call (.Attribute (.Call (.Name "super" p0) [] [] p1) "__init__" p2) [e] [] p3) p4 :: body) (har : ((defArgs st).posonlyargs ++ (defArgs st).args).head? = some ar) (hN : N[0]? = some ar.arg)
    (he : ∀ env : Env, starEach [e] env = [(false, eval e env)])
    (hsw : ∀ env : Env, swapsWith (.Call (.Attribute (.Call (.Name "super" p0) [] [] p1) "__init__" p2) [e] [] p3) none p4.line env = pure false)
    (hcall : ∀ env : Env, eval (.Call (.Attribute (.Call (.Name "super" p0) [] [] p1) "__init__" p2) [e] [] p3) env = (do
      let ov ← attributeBase (.Call (.Name "super" p0) [] [] p1) "__init__" env (eval (.Call (.Name "super" p0) [] [] p1) env)
      standAt p2.atName
      let (fx, first) ← holding [ov] (getMethod ov "__init__" pl)
      callWith p3 fx first (backTo p3 (starEach [e] env)) []))
    (len : ∀ vs H Q E, sp vs H Q E → vs.length = ps.length)
    (hbody : ∀ (cda : Value) (cc : Addr) (A : Around) (outer : List Env) (s : Shared) (H : Hp) (vs : List V) (Q : VK) (E : XK), Room k (A.deeper (ksEnv qual (defScope st) s.heap.objs.size f cda cc)) → sp vs H Q E →
      ∃ (a : Addr) (te : TE) (t : TS), vs[0]? = some (.ref a) ∧ H a = some (exo a C none) ∧ PE (cxSup CX P w K mg base N qual (defScope st) f cda cc A outer s H E) e te ∧ PSs (cxSup CX P w K mg base N qual (defScope st) f cda cc A outer s H E) body t ∧
        te (L2.start N vs) H fun x H1 => [x].length ≤ 1000 ∧ H1 a = some (exo a C none) ∧ t { nx := fun _ H' => Q .non H', rt := Q } (L2.start N vs) H1) : FnOk P w K mg base CX (k + 1) f fd ps sp := by
  obtain ⟨oc, od, kV, doc, pm, an, cda, ct, cc, sl, rfl, lk, hcd, lc, lq⟩ := F.ex
  refine ⟨len, fun A outer s H args us vs Q E hr e0 hbi r hsp => ?_⟩
  have hl := len _ _ _ _ hsp
  have KX : K.In s.heap := e0.mod.kin.keeps fun b o e => (e0.bs b o e).1
  have lim : s.heap.NoLimit := e0.mod.nolimit.keeps fun b o e => (e0.bs b o e).1
  obtain ⟨c4, c5, c6, hcell⟩ := lq
  refine ks_codeAny_call_defAt (body := defBody st) hr.depth (KX _ _ lk) rfl lim (PySem.W.codeRec_of KX hcd) rfl hbi S.nocell (fun ⟨n, v⟩ hy => S.par n (List.of_mem_zip hy).1) (fun h1 hns hk => ?_) S.co S.gen S.kind
  obtain ⟨a, te, t, hv, ea, pe, pss, q⟩ := hbody (.ref cda) cc A outer s H vs Q E (hr.deeper _) hsp
  have I : Inv (cxSup CX P w K mg base N qual (defScope st) f (.ref cda) cc A outer s H E) [] (L2.start N vs) H _ := inv_sup (t := s.toks + (ps.zip us).length) S hr.hd e0 hl r hcell hns hk
  have fin : ∀ {σ' : L2.St} {H' : Hp} {v : V} {u : Value} {s' : Shared}, Inv (cxSup CX P w K mg base N qual (defScope st) f (.ref cda) cc A outer s H E) [] σ' H' s' → RelV v u → Q v H' → CE outer P w H s Q u s' :=
    fun {σ' H' v u s'} J rv q => ⟨v, H', J.os, J.bare, J.base, J.hok, rv, q⟩
  have h0 : (L2.start N vs)[0]? = some (some (V.ref a)) := by
    unfold L2.start
    rw [List.getElem?_append_left (by rw [List.length_map]; exact (List.getElem?_eq_some_iff.mp hv).1), List.getElem?_map, hv]
    rfl
  have hloc : (defScope st).names.lookup ar.arg = some .local := S.par _ (by rw [← S.eqN]; exact List.mem_of_getElem? hN)
  show PySem.wpAt _ _ _ (execs (defBody st) _) _ _ _
  rw [hb]
  refine ks_wpAt_execs_cons ?_
  refine sup_run S D lk har lc ⟨c4, c5, c6, hcell⟩ I h0 hN hloc ea (pa_cons pe pa_nil (he _)) q (fun H1 s1 q1 J => ?_) (he _) rfl (hsw _) (hcall _) _
  refine wpAt_of_wpAny (wpAny_mono (pss.run [] s1 (L2.start N vs) H1 _ J q1) (fun fl s' hs => ?_) fun e s' hs => hs)
  cases fl with
  | ret u =>
    obtain ⟨v, σ', H', J, rv, q⟩ := hs
    exact fin J rv q
  | next =>
    obtain ⟨σ', H', J, q⟩ := hs
    exact fin (v := V.non) (u := Value.none) J rfl q
  | brk =>
    obtain ⟨_, _, _, q⟩ := hs
    exact False.elim q
  | cont =>
    obtain ⟨_, _, _, q⟩ := hs
    exact False.elim q
end
end My
set_option maxRecDepth 100000
set_option maxHeartbeats 1000000
namespace My
open PySem PySem.Spec PyProof.Rows L2
/-! ### max(x, default=d) of a list of whole numbers -/
theorem ints_reads {h : Heap} : ∀ {ns : List Int} {us : List Value}, Vals (ns.map V.int) us → ReadsAll h us (ns.map PyData.int) []
  | [], _, .nil => .nil
  | n :: ns, _, .cons r t => by
    obtain ⟨tk, rfl⟩ := r
    exact ReadsAll.cons (as := []) (bs := []) (.int n tk) (ints_reads t)
theorem alike_ints (ns : List Int) : PySem.W.AlikeAll (ns.map PyData.int) := by
  refine ⟨fun x hx y hy => ?_, fun x hx => ?_⟩
  · obtain ⟨i, _, rfl⟩ := List.mem_map.mp hx
    obtain ⟨j, _, rfl⟩ := List.mem_map.mp hy
    rfl
  · obtain ⟨i, _, rfl⟩ := List.mem_map.mp hx
    exact fun z => nomatch z
theorem depth_ints : ∀ ns : List Int, PyData.depthAll (ns.map PyData.int) ≤ 1
  | [] => by simp [PyData.depthAll]
  | n :: ns => by
    have := depth_ints ns
    simp only [List.map_cons, PyData.depthAll, PyData.depth]
    omega
theorem foldl_max (ns : List Int) : ∀ n : Int, (ns.foldl max n ∈ n :: ns) ∧ ∀ y ∈ n :: ns, y ≤ ns.foldl max n := by
  induction ns with
  | nil => intro n; simp
  | cons k r ih =>
    intro n
    obtain ⟨h1, h2⟩ := ih (max n k)
    rw [List.foldl_cons]
    refine ⟨?_, fun y hy => ?_⟩
    · rcases List.mem_cons.mp h1 with e | e
      · rw [e]
        rcases Int.le_total n k with z | z
        · rw [Int.max_eq_right z]; simp
        · rw [Int.max_eq_left z]; simp
      · exact List.mem_cons_of_mem _ (List.mem_cons_of_mem _ e)
    · have hm := h2 (max n k) List.mem_cons_self
      rcases List.mem_cons.mp hy with e | e
      · rw [e]; omega
      · rcases List.mem_cons.mp e with e | e
        · rw [e]; omega
        · exact h2 y (List.mem_cons_of_mem _ e)
section
variable {X : Cx}
def rMaxDf (K : PySem.W.Frag) : List V → List V → Hp → VK → Prop := fun xs zs H Q => ∃ (a : Addr) (ns : List Int) (d : Int), xs = [.ref a] ∧ zs = [.int d] ∧ SqL K H a (ns.map V.int) ∧
  (ns = [] → Q (.int d) H) ∧ ∀ m, m ∈ ns → (∀ y ∈ ns, y ≤ m) → Q (.int m) H
theorem call_maxDf (hc : X.calm = true) (hu : X.A.units + 10 < cLine) : CallRK X (.builtin "max") ["default"] (rMaxDf X.K) := by
  intro pins s σ H xs zs us ws Q I r rz h
  obtain ⟨a, ns, d, rfl, rfl, hq, h0, h1⟩ := h
  obtain rfl := Vals.ref1 r
  obtain ⟨w, rfl, rw'⟩ := rz.one
  obtain ⟨its, rv, pl, hz⟩ := I.list hq
  have hd := depth_ints ns
  refine PySem.W.max_list_default (I.ok.hd hc) pl.isList (xs := ns.map PyData.int) (as := []) (by rw [List.toList_toArray]; exact ints_reads rv) (alike_ints ns) (by show X.A.units + 1 + _ < _; omega) (fun e h' tk k => ?_) fun y ys i v h' tk bs e hv rd k => ?_
  · exact ⟨.int d, H, I.kept (t' := tk) k, rw', h0 (List.map_eq_nil_iff.mp e)⟩
  · cases ns with
    | nil => cases e
    | cons n ns =>
      rw [List.map_cons] at e
      obtain ⟨rfl, rfl⟩ := List.cons.inj e
      rw [PySem.W.maxD_ints] at rd
      obtain ⟨t0, rfl, _⟩ := reads_int_inv rd
      obtain ⟨m1, m2⟩ := foldl_max ns n
      exact ⟨.int (ns.foldl max n), H, I.kept (t' := tk) k, ⟨_, rfl⟩, h1 _ m1 m2⟩
/-! ### isinstance(e, c) of a caught error with fields -/
theorem call_isExD {a : Addr} {oe : Obj} {cls : Value} {d : Option Addr} {pn : List (Addr × Obj)} (hz : Zc cls d oe) (hf : ∃ vs, oe.data = .fields vs) :
    CallR (X.suite a ((a, oe) :: pn)) (.builtin "isinstance") (fun xs H Q => ∃ D dd fs, cls = .ref D ∧ d = some dd ∧ H dd = some (.xd fs) ∧ ExcC X.K D ∧ rIsE X.K D a xs H Q) := by
  intro pins s σ H xs us Q I r h
  obtain ⟨D, dd, fs, rfl, rfl, hd, C, c, cv, b, rfl, hcv, e, q⟩ := h
  cases r with
  | cons rx rr =>
    cases rr with
    | cons rt rr =>
      cases rr
      cases rx
      have ec := hcv _ rt
      subst ec
      obtain ⟨hget, _⟩ := I.pin (a, oe) (List.mem_append.mpr (.inl List.mem_cons_self))
      obtain ⟨vs, hv⟩ := hf
      have hx : ObjOk X.prog X.w H s.heap dd (.xd fs) := I.hok dd _ hd
      obtain ⟨mA, ⟨od, es, ep, ho, _⟩, _⟩ := hx
      have J : PySem.W.InstAt s.heap a oe D (some od) := ⟨hget, hz.1, by unfold PySem.W.notCls; rw [hv] <;> rfl, by rw [hz.2]; exact ho⟩
      obtain ⟨cdD, hcD, _⟩ := PySem.W.any_some C.hd
      refine PySem.W.kia_one (PySem.W.kitx_exc (od := some od) (by rw [hcD]; rfl) C.hg C.hk C.hs C.ha C.hn C.ht C.hm) I.kIn J e (fun z => nomatch z) fun tk => ⟨.bl b, H, I.kept (t' := tk) fun _ _ z => z, rfl, q⟩
end
/-! ### what such a class has, by a check -/
theorem tail_refs : ∀ {l : List Value}, PySem.W.excTail [.type "ValueError", .type "Exception", .type "BaseException", .type "object"] l = true → PySem.HandSPX.refsVE l = true := by
  intro l
  induction l with
  | nil => intro h; revert h; decide
  | cons a t ih =>
    intro h
    cases a <;> first | exact ih h | exact h
theorem oex_of {K : PySem.W.Frag} {C : Addr} (q : PySem.W.excInitIn K C [.type "ValueError", .type "Exception", .type "BaseException", .type "object"] "ValueError.__new__" = true) (hd : PySem.W.hasDictIn K C = true)
    (sa : PySem.W.findIn K (.ref C) "__setattr__" = some (some (.builtin "object.__setattr__"))) (bp : PySem.W.subIn K (.ref C) (.type "BaseException") = some true) (tp : PySem.W.typeIn K (.ref C) = some (.type "type")) (kp : PySem.W.keepIn K (.ref C) = true) : OexC K C := by
  refine ⟨?_, sa, bp, tp, kp⟩
  unfold PySem.W.excInitIn at q
  split at q
  · rename_i dd cd sl ho
    split at q
    · rename_i C' bm k0 k1 k2 k3 n k5 hm hs
      simp only [Bool.and_eq_true, beq_iff_eq, Bool.not_eq_true'] at q
      obtain ⟨⟨⟨e1, e2⟩, hdel⟩, ht⟩ := q
      subst e1
      subst e2
      obtain ⟨cd1, hc1, hd1⟩ := PySem.W.any_some hd
      have ec : PySem.W.clsIn K C' = some cd := by unfold PySem.W.clsIn; rw [ho]
      rw [ec] at hc1
      cases hc1
      obtain ⟨nm, bs, mro, ns, qn, hdc, sn, sub, ab, col, del⟩ := cd
      dsimp only at hm hdel hd1
      subst hm
      subst hdel
      subst hd1
      have hsl : sl = #[k0, k1, k2, k3, some (.builtin "ValueError.__new__"), k5] := by
        obtain ⟨l⟩ := sl
        simp only at hs
        rw [hs]
      subst hsl
      exact ⟨nm, qn, ns, bs, bm, sn, sub, ab, col, dd, k0, k1, k2, k3, k5, ho, tail_refs ht⟩
    · cases q
  · cases q
/-! ### the promises of such an __init__ -/
/-- one field -/
def spX1 (C : Addr) (f : Str) (P : V → Prop) : Sp := fun vs H Q _ => ∃ (a : Addr) (y : V), vs = [.ref a, y] ∧ P y ∧ H a = some (exo a C none) ∧ ∀ d, H d = none → d ≠ a → Q .non (upd (upd H d (exd d [(f, y)])) a (exo a C (some d)))
def smallI (y : V) : Prop := ∃ i : Int, y = .int i ∧ i.natAbs < 1000000
theorem small_log {i : Int} (h : i.natAbs < 1000000) : i.natAbs.log2 < 1920 := by
  rcases Nat.eq_zero_or_pos i.natAbs with e | e
  · rw [e]; decide
  · exact Nat.lt_of_lt_of_le ((Nat.log2_lt (by omega)).mpr (Nat.lt_of_lt_of_le h (by decide : 1000000 ≤ 2 ^ 20))) (by decide)
end My
set_option maxRecDepth 100000
set_option maxHeartbeats 1000000
namespace My
open PySem PySem.Spec PyProof.Rows L2
/-! ### iter(t) of a tuple; list(o), o's class with its own __iter__ (a tuple's iterator) and its own __len__ -/
/-- a tuple's iterator at it, over the tuple at l, the next place i -/
def TitO (l it : Addr) (i : Nat) : HO := .ext fun h => h.IsTupleIter it l i
/-- at it stands something -/
def AnyO (it : Addr) : HO := .ext fun h => ∃ o, h.get? it = some o
theorem titO_ok {P : Program} {w : World} {H : Hp} {h : Heap} {l it : Addr} {i : Nat} (e : h.IsTupleIter it l i) : ObjOk P w H h it (TitO l it i) :=
  ⟨e, ⟨_, e.choose_spec.1⟩, fun h1 h2 q k => let ⟨o, ho, r⟩ := q; ⟨o, k _ ho, r⟩⟩
theorem anyO_ok {P : Program} {w : World} {H : Hp} {h : Heap} {it : Addr} (e : ∃ o, h.get? it = some o) : ObjOk P w H h it (AnyO it) := ⟨e, e, fun h1 h2 q k => let ⟨o, ho⟩ := q; ⟨o, k _ ho⟩⟩
section
variable {X : Cx} {pins : List (Addr × Obj)} {σ : L2.St} {H : Hp} {s : Shared} {l it S : Addr} {i : Nat}
theorem titO_get (I : Inv X pins σ H s) (e : H it = some (TitO l it i)) : s.heap.IsTupleIter it l i := (I.hok it _ e).1
theorem call_iterT : CallR X (.builtin "iter") (fun xs H Q => ∃ (l : Addr) (zs : List V), xs = [.ref l] ∧ SqT X.K H l zs ∧ ∀ it, H it = none → Q (.ref it) (upd H it (TitO l it 0))) := by
  intro pins s σ H xs us Q I r h
  obtain ⟨l, zs, rfl, hq, q⟩ := h
  obtain rfl := Vals.ref1 r
  obtain ⟨its, rv, pl, hz⟩ := I.tuple hq
  refine Calls.call_function_entry (by decide +kernel) (by decide +kernel) PySem.W.kdk_entry_iter (PySem.W.kdk_args_iter _) ?_
  unfold Builtin.«iter»
  refine wpAny_bind (m := someArgs "iter" 1 2 _) (wpAny_of_eq (a := [Value.ref l]) (by first | rfl | kernel_rfl!) ?_)
  show wpAny _ _ (pyIter (.ref l) >>= _) _ _ _
  refine wpAny_bind (wpAny_pyIter_tuple (show s.heap.IsTuple l its.toArray from pl) (wpAny_pure ⟨_, rfl, ?_⟩))
  exact ⟨.ref s.heap.objs.size, _, I.laid (t' := s.toks) (fun b u e => Heap.get?_push_of_some _ e) (Nat.le_refl _) (titO_ok ⟨_, Heap.get?_push_size _ rfl, rfl, rfl⟩), rfl, q _ (I.hok.fresh (Nat.le_refl _))⟩
/-- the end of a tuple's iterator; its record stays -/
theorem tup_end {prog : Program} {w : World} {A : Around} {E : Value → Shared → Prop} {items : Array Value} {Q : Option Value → Shared → Prop} (hh : A.handled = none) (hit : s.heap.IsTupleIter it l i) (ht : s.heap.IsTuple l items) (hx : items[i]? = none)
    (hQ : ∀ h', (∀ b o, b ≠ it → s.heap.get? b = some o → h'.get? b = some o) → (∃ o, h'.get? it = some o) → Q none { s with heap := h' }) : wpAny (model prog w) A (pyNext (.ref it)) Q E s := by
  obtain ⟨o, ho, hc, hd⟩ := id hit
  obtain ⟨ol, hol, _, nl, hdl⟩ := ht
  have hup := Heap.get?_update_self (Obj.mapFields (·.setIfInBounds 0 Value.none)) ho (Obj.isFreed_of_fields (Obj.data_mapFields hd _))
  unfold pyNext
  refine wpAny_bind (wpAny_attempt (wpAny_callSpecial?_slot (name := Str.ofString "__next__") hit.typeIs PySem.F.slot_tuple_iterator_next (wpAny_call_entry PySem.F.slot_tuple_iterator_next hit.typeIs PySem.F.entry_tuple_iterator_next ?_ (PySem.F.args_tuple_iterator_next_1 _))))
  show wpAny _ _ (field (.ref it) 0 >>= _) _ _ s; refine wpAny_bind (wpAny_field ho hd (x := .ref l) rfl ?_); show wpAny _ _ (if (Value.ref l == Value.none) = true then _ else _) _ _ s
  rw [if_neg (fun z => by revert z; exact Bool.false_ne_true : ¬ ((Value.ref l == Value.none) = true))]; show wpAny _ _ (field (.ref it) 1 >>= _) _ _ s
  refine wpAny_bind (wpAny_field ho hd (x := .int i 0) rfl ?_); show wpAny _ _ (seqItems? (.ref l) >>= _) _ _ s
  refine wpAny_bind (wpAny_seqItems hol hdl ?_)
  simp only [Int.toNat_natCast, hx]
  refine wpAny_bind (wpAny_rule (wpAny_bind (wpAny_setField ho hd (by simp) ?_))); show wpAny _ _ (newExc (.type "StopIteration") [] >>= _) _ _ _
  refine wpAny_bind ?_
  simp only [newExc, newTuple]
  refine wpAny_bind (wpAny_newObj_type ?_ (by size_fits)); refine wpAny_bind (m := firstArgMember _ _) (wpAny_of_eq (a := Value.none) (by first | rfl | (simp only [firstArgMember]; rfl)) ?_)
  refine wpAny_newObj_type ?_ (by size_fits)
  simp only [raiseNew]
  refine wpAny_bind (wpAny_handled ?_)
  first | rw [show A.in1.handled = none from hh] | rw [hh]
  refine wpAny_bind (wpAny_pure (wpAny_throw ?_))
  refine wpAny_bind (wpAny_isInstance (T := "StopIteration") (b := true) ⟨_, Heap.get?_push_size _ rfl, rfl⟩ isSubtype_stop (wpAny_pure (hQ _ (fun b ob hb e => ?_) ⟨_, Heap.get?_push_of_some _ (Heap.get?_push_of_some _ hup)⟩)))
  exact Heap.get?_push_of_some _ (Heap.get?_push_of_some _ ((Heap.get?_update_other _ _ (Ne.symm hb)).trans e))
/-- list.extend over it -/
theorem tit_loop {A1 : Around} {ys : List V} {Rs : Result → Shared → Prop} (hh : A1.handled = none) :
    ∀ (k i : Nat) (H : Hp) (s : Shared), ys.length - i = k → i ≤ ys.length → Inv X pins σ H s → H it = some (TitO l it i) → H l = some (.tup ys) → H S = some (.lst (ys.take i)) → ys.length < sizeLine →
      (∀ H2 s2, Inv X pins σ H2 s2 → (∀ b, b ≠ it → b ≠ S → H2 b = H b) → H2 S = some (.lst ys) → Rs (.ok (.ret .none)) s2) → codeAny (model X.prog X.w) A1 (.builtin "list.extend.loop" ⟨[.ref S, .ref it, .none], []⟩) Rs s := by
  intro k
  induction k with
  | zero =>
    intro i H s hk hi I h1 h2 h3 hz hR
    have hne : S ≠ it := ne_of h3 h1 (fun z => nomatch z)
    obtain ⟨its, rv, pl, _⟩ := I.tuple (SqT.of h2)
    refine codeAny_builtin PySem.F.entry_extend_loop ?_
    rw [Around.under_plainId PySem.F.plain_extend_loop _]
    show wpAny _ A1.in1 (pyNext (.ref it) >>= _) _ _ s
    have hno : (its.toArray)[i]? = none := by
      have := rv.length
      rw [List.getElem?_toArray, List.getElem?_eq_none_iff]
      omega
    refine wpAny_bind (tup_end hh (titO_get I h1) (show s.heap.IsTuple l its.toArray from pl) hno fun h' k' e' => wpAny_pure ?_)
    have J := I.write (t' := s.toks) (x := it) (e := it) (o := AnyO it) (by rw [h1]; exact True.intro) (.inl rfl) k' e' (anyO_ok e')
    refine hR _ _ J (fun b hb _ => upd_ne hb) ?_
    rw [upd_ne hne, h3, List.take_of_length_le (by omega)]
  | succ k ih =>
    intro i H s hk hi I h1 h2 h3 hz hR
    have hne : S ≠ it := ne_of h3 h1 (fun z => nomatch z)
    have hln : l ≠ it := ne_of h2 h1 (fun z => nomatch z)
    have hlS : l ≠ S := ne_of h2 h3 (fun z => nomatch z)
    obtain ⟨its, rv, pl, _⟩ := I.tuple (SqT.of h2)
    have hlen := rv.length
    have hlt : i < ys.length := by omega
    obtain ⟨u, hu, ru⟩ := rv.get (i := i) (x := ys[i]) (by simp [hlt])
    refine codeAny_builtin PySem.F.entry_extend_loop ?_
    rw [Around.under_plainId PySem.F.plain_extend_loop _]
    show wpAny _ A1.in1 (pyNext (.ref it) >>= _) _ _ s
    refine wpAny_bind (wpAny_pyNext_tuple_item (titO_get I h1) (show s.heap.IsTuple l its.toArray from pl) (x := u) (by rw [List.getElem?_toArray]; exact hu) fun h' hit hs => ?_)
    have J := I.write (t' := s.toks) (x := it) (e := it) (o := TitO l it (i + 1)) (by rw [h1]; exact True.intro) (.inl rfl) (fun b o hb e => hs.extBut b o hb e) ⟨_, hit.choose_spec.1⟩ (titO_ok hit)
    have h3' : upd H it (TitO l it (i + 1)) S = some (.lst (ys.take i)) := by rw [upd_ne hne]; exact h3
    show wpAny _ A1.in1 (updateSeq S (·.push u) >>= _) _ _ _
    obtain ⟨z, its3, n3, r3, hl3, e3⟩ := J.lstM h3'
    have hl4 : its3.length = i := by rw [← hl3, List.length_take]; omega
    refine wpAny_bind (wpAny_updateSeq e3 rfl (wpAny_pure ⟨plainId_quiet PySem.F.plain_extend_loop _, ?_⟩) (by rw [List.size_toArray]; omega) (by show (its3.toArray.push u).size ≤ sizeLine + 1; rw [Array.size_push, List.size_toArray]; omega))
    have et : ys.take (i + 1) = ys.take i ++ [ys[i]] := by rw [List.take_succ]; simp [hlt]
    have J2 := J.lset (f := (·.push u)) (its' := its3 ++ [u]) (t' := s.toks) (ys := ys.take (i + 1)) h3' e3 (by simp) (by rw [et]; exact r3.append (.cons ru .nil)) (by rw [List.length_take]; omega)
    refine ih (i + 1) _ _ (by omega) hlt J2 ?_ ?_ upd_same hz fun H2 s2 I2 k2 e2 => hR H2 s2 I2 (fun b hb hc => ?_) e2
    · rw [upd_ne (Ne.symm hne), upd_same]
    · rw [upd_ne hlS, upd_ne hln]; exact h2
    · rw [k2 b hb hc, upd_ne hc, upd_ne hb]
/-- what such a class must have -/
structure ItL (K : PySem.W.Frag) (C fi fl : Addr) : Prop where
  it : PySem.W.findIn K (.ref C) "__iter__" = some (some (.ref fi))
  itF : PySem.W.isFn K (.ref fi) = true
  ln : PySem.W.findIn K (.ref C) "__len__" = some (some (.ref fl))
  lnF : PySem.W.isFn K (.ref fl) = true

/-- list(o): its __iter__ gives a tuple's iterator, its __len__ a number -/
def rLstIt (C : Addr) (spI spL : Sp) (EI EL : XK) : List V → Hp → VK → Prop := fun xs H Q => ∃ a dx fs, xs = [.ref a] ∧ H a = some (.ins C dx fs) ∧ ∀ q, H q = none → q ≠ a →
  spI [.ref a] (upd H q (.lst [])) (fun v H1 => ∃ it l ys, v = .ref it ∧ H1 it = some (TitO l it 0) ∧ H1 l = some (.tup ys) ∧ H1 q = some (.lst []) ∧ H1 a = some (.ins C dx fs) ∧ ys.length < sizeLine ∧
    spL [.ref a] H1 (fun n H2 => H2 = H1 ∧ ∃ k : Int, n = .int k ∧ 0 ≤ k ∧ k < 1000) EL ∧ ∀ H2, (∀ b, b ≠ it → b ≠ q → H2 b = H1 b) → H2 q = some (.lst ys) → Q (.ref q) H2) EI
section
variable {X : Cx} {CI : CXT} {n : Nat} {C fi fl : Addr} {fdI fdL : FuncData} {psI psL : List Str} {spI spL : Sp} {EI EL : XK}
theorem call_at0 {f : Addr} {fd : FuncData} {ps : List Str} {sp : Sp} {E : XK} (G0 : FnOk X.prog X.w X.K X.mg X.base CX0 n f fd ps sp) (hb : Binds X.K fd ps []) {A : Around} (hr : Room n A) (hA : A.frames = X.A.frames)
    {pins : List (Addr × Obj)} {s : Shared} {σ : L2.St} {H : Hp} (I : Inv X pins σ H s) {vs : List V} {us : List Value} (r : Vals vs us) {Q : VK} {EE : Value → Shared → Prop} (h : sp vs H Q E) :
    wpAny (model X.prog X.w) A (call (.ref f) us) (EP X pins σ Q) EE s := by
  have e0 : Env0 X.prog X.w X.K X.mg X.base A X.stack s H := by
    have e := I.env0
    exact ⟨by rw [hA]; exact e.frames, e.mod, e.bs, e.bsz, e.funs, e.frf, e.hok, e.bare⟩
  have hl := G0.len _ _ _ _ h
  refine wpAny_call (codeAny_mono (G0.run A X.stack s H ⟨us, []⟩ us vs Q E hr e0 (by
    have := hb s us I.kIn (by rw [List.append_nil, ← r.length]; exact hl)
    simpa using this) r h) fun r s' hq => ?_)
  cases r with
  | error e => exact False.elim hq
  | ok fl =>
    cases fl with
    | ret w => exact I.after hq
    | next => exact False.elim hq
    | brk => exact False.elim hq
    | cont => exact False.elim hq
theorem call_listIt (hc : ItL X.K C fi fl) (FI : FnOk X.prog X.w X.K X.mg X.base CI n fi fdI psI spI) (bI : Binds X.K fdI psI []) (xI : Passes CI X EI)
    (FL : FnOk X.prog X.w X.K X.mg X.base CX0 n fl fdL psL spL) (bL : Binds X.K fdL psL []) (hr : Room (n + 4) X.A) : CallR X (.type "list") (rLstIt C spI spL EI EL) := by
  intro pins s σ H xs us Q I rv h
  obtain ⟨a, dx, fs, rfl, ha, hq⟩ := h
  obtain ⟨u, rfl, ru⟩ := rv.one
  cases ru
  have sb : Sub X (n + 2) X.A.in1.in1 := (Sub.in1 (Sub.in1 (⟨hr, rfl⟩ : Sub X (n + 4) X.A)))
  refine callType_codes (Q₁ := fun obj s₁ => obj = .ref s.heap.objs.size ∧ s₁ = { s with heap := s.heap.push { cls := .type "list", data := .seq #[] } }) PySem.F.called_list (PySem.F.typeCall_list_1 _) PySem.F.entry_list_init (code_list_new _ ⟨rfl, rfl⟩) fun obj s₁ h₁ => ?_
  obtain ⟨rfl, rfl⟩ := h₁
  have hS : (s.heap.push { cls := .type "list", data := .seq #[] }).get? s.heap.objs.size = some { cls := .type "list", data := .seq #[] } := Heap.get?_push_size _ rfl
  refine ⟨⟨_, hS, rfl⟩, PySem.F.args_list_init_2 _ _, ?_⟩
  have fr : H s.heap.objs.size = none := I.hok.fresh (Nat.le_refl _)
  have sp0 := hq _ fr (fun z => by rw [z, ha] at fr; cases fr)
  have I1 : Inv X pins σ (upd H s.heap.objs.size (.lst [])) { s with heap := s.heap.push { cls := .type "list", data := .seq #[] } } := I.lnew (its := []) (t' := s.toks) .nil (Nat.zero_le _)
  show wpAny _ _ (do let old ← Builtin.List.listItems (.ref s.heap.objs.size); Builtin.List.listUpdate (.ref s.heap.objs.size) (fun _ => #[]); letGo old.toList.reverse; Builtin.List.listExtendWith (.ref s.heap.objs.size) (.ref a) .none) _ _ _
  refine wpAny_bind ?_
  unfold Builtin.List.listItems
  refine wpAny_bind (wpAny_seqItems hS rfl (wpAny_pure ?_))
  show wpAny _ _ (updateSeq s.heap.objs.size (fun _ => #[]) >>= fun _ => letGo (#[] : Array Value).toList.reverse >>= fun _ => Builtin.List.listExtendWith (.ref s.heap.objs.size) (.ref a) .none) _ _ _
  refine wpAny_bind (wpAny_updateSeq hS rfl ?_)
  have I2 := I1.lset (f := fun _ => #[]) (its := []) (its' := []) (ys := []) (t' := s.toks) upd_same hS rfl .nil (Nat.zero_le _)
  rw [upd_upd] at I2
  refine wpAny_bind (wpAny_letGo ?_)
  have ha2 : upd H s.heap.objs.size (.lst []) a = some (.ins C dx fs) := by rw [upd_ne (ne_of_none ha fr)]; exact ha
  have hne : s.heap.objs.size ≠ a := fun z => by rw [z, ha] at fr; cases fr
  generalize hq0 : s.heap.objs.size = q at *
  generalize hH0 : upd H q (.lst []) = H0 at *
  obtain ⟨mA, J, _⟩ := ins_get I2.hok ha2
  obtain ⟨od, J, _⟩ := J.look
  obtain ⟨m0, hF⟩ := I2.fr
  unfold Builtin.List.listExtendWith
  refine wpAny_bind (J.type.here ?_)
  have h1 : Builtin.List.listSameRef (.ref q) (.ref a) = false := by simp [Builtin.List.listSameRef, hne]
  simp only [h1, (rfl : (Value.ref C == Value.type "list") = false), (rfl : (Value.ref C == Value.type "tuple") = false), Bool.or_false, Bool.false_eq_true, if_false]
  refine wpAny_bind (PySem.W.owit_iter hF I2.ok.mod.kin J hc.it hc.itF ?_)
  refine wpAny_mono (call_at FI bI xI (A := X.A.in1.in1) (sb.mono (by omega)).room sb.fr I2 (vs := [.ref a]) (.cons rfl .nil) sp0) (fun v s3 z => ?_) fun _ _ z => z
  obtain ⟨x, H1, I3, r3, it, l, ys, ex, e1, e2, e3, e4, hz, q1, q2⟩ := z
  subst ex
  obtain rfl : v = Value.ref it := r3
  have hit := titO_get I3 e1
  unfold PySem.W.OwitIt
  refine wpAny_specialOf (show s3.TypeIs (.ref it) "tuple_iterator" from hit.typeIs) PySem.F.slot_tuple_iterator_next.lookup ?_
  show wpAny _ _ _ _ _ s3
  refine wpAny_bind (wpAny_holding ?_)
  obtain ⟨mB, J3, _⟩ := ins_get I3.hok e4
  obtain ⟨od3, J3, _⟩ := J3.look
  obtain ⟨m3, hF3⟩ := I3.fr
  unfold Builtin.List.listLengthHint
  refine wpAny_bind (wpAny_bind (J3.type.here ((PySem.W.looks_findIn I3.kIn hc.ln).here ?_)))
  refine PySem.W.KFB.if_not rfl ?_
  refine PySem.W.KFB.if_so rfl ?_
  refine wpAny_bind (wpAny_rule (wpAny_bind (wpAny_attempt ?_)))
  refine PySem.W.len_K hF3 I3.ok.mod.kin J3 hc.ln hc.lnF (wpAny_mono (call_at0 FL bL (A := X.A.in1.in1.in1) (Sub.in1 (sb.mono (show n + 1 ≤ n + 2 by omega))).room sb.fr I3 (vs := [.ref a]) (.cons rfl .nil) q1) (fun v s4 z => ?_) fun _ _ z => z)
  obtain ⟨x, H2, I4, r4, eH, k0, ek, hk0, hk1⟩ := z
  subst ek
  subst eH
  obtain ⟨tk4, rfl⟩ := r4
  refine ⟨⟨hk0, by omega⟩, ?_⟩
  refine wpAny_bind (wpAny_of_eq (a := some k0) rfl ?_)
  show wpAny _ _ (if Builtin.List.listTooLong k0.toNat = true then _ else _) _ _ _
  refine PySem.W.KFB.if_not (notLongL (by rw [sizeLine_eq]; omega)) (wpAny_pure ?_)
  have I5 := I4.tok (s4.toks + 1)
  have hne1 : q ≠ it := ne_of e3 e1 (fun z => nomatch z)
  have go : ∀ s5, Inv X pins σ H2 s5 → codeAny (model X.prog X.w) X.A.in1 (.builtin "list.extend.loop" ⟨[.ref q, .ref it, .none], []⟩) (wants (fun r s₂ => r = .none ∧ EP X pins σ Q (.ref q) s₂) X.xe) s5 := fun s5 I6 =>
    tit_loop (A1 := X.A.in1) (Rs := wants (fun r s₂ => r = .none ∧ EP X pins σ Q (.ref q) s₂) X.xe) (show X.A.in1.handled = none from hr.hd) ys.length 0 H2 s5 (by omega) (Nat.zero_le _) I6 e1 e2 (by rw [List.take_zero]; exact e3) hz fun H7 s7 I7 k7 e7 => ⟨rfl, .ref q, H7, I7, rfl, q2 H7 k7 e7⟩
  refine wpAny_ite_split (fun _ => ?_) (fun _ => wpAny_pure ⟨plainId_quiet PySem.F.plain_extend_loop _, go _ I5⟩)
  refine wpAny_bind (wpAny_rule (wpAny_bind ?_))
  show wpAny _ _ (updateSeq q (·.push .none) >>= fun _ => updateSeq q (·.pop)) _ _ _
  obtain ⟨z, its, n5, r5, hl5, e5⟩ := I5.lstM e3
  cases r5
  refine wpAny_bind (wpAny_updateSeq e5 rfl ?_)
  have I6 := I5.lset (f := (·.push Value.none)) (its' := [Value.none]) (ys := [.non]) (t' := s4.toks + 1) e3 e5 (by simp) (.cons rfl .nil) (by rw [List.length_singleton, sizeLine_eq]; decide)
  obtain ⟨z6, its6, n6, r6, hl6, e6⟩ := I6.lstM upd_same
  obtain ⟨u6, rfl, ru6⟩ := r6.one
  refine wpAny_updateSeq e6 rfl (wpAny_pure ⟨plainId_quiet PySem.F.plain_extend_loop _, go _ ?_⟩) (by show 1 ≤ sizeLine; rw [sizeLine_eq]; decide) (by show 0 ≤ sizeLine + 1; exact Nat.zero_le _)
  have I7 := I6.lset (f := (·.pop)) (its := [u6]) (its' := []) (ys := []) (t' := s4.toks + 1) upd_same e6 (by rfl) .nil (Nat.zero_le _)
  rw [upd_upd] at I7
  have hH : upd H2 q (.lst []) = H2 := by
    funext b
    by_cases hb : b = q
    · rw [hb, upd_same, e3]
    · rw [upd_ne hb]
  rw [hH] at I7
  exact I7
end
end
end My
set_option maxRecDepth 100000
set_option maxHeartbeats 2000000
namespace My
open PySem PySem.Spec PyProof.Rows L2
/-! ### enumerate(t), t a tuple -/
theorem enum_new1 {v : Value} {o : Obj} {G : Heap → Prop} (B : Begins v o G) :
    Meets (Builtin.«enumerate.__new__» ⟨[.type "enumerate", v], []⟩) (fun _ R s => G s.heap ∧
      R (.ok (.ret (.ref (s.heap.push o).objs.size))) { s with heap := (s.heap.push o).push { cls := .type "enumerate", data := .fields #[.none, .bool false, .ref s.heap.objs.size, rawInt 0, .none, .none] } }) := by
  refine .of_wp fun prog w A R s h => ?_
  obtain ⟨hp, g, d, tk, os⟩ := s
  obtain ⟨h1, h⟩ := h
  have hsub := sub_enumerate
  have goB : ∀ {A' : Around} {E Q : Value → Shared → Prop}, Q (.ref hp.objs.size) ⟨hp.push o, g, d, tk, os⟩ → wpAny (model prog w) A' (pyIter v) Q E ⟨hp, g, d, tk, os⟩ := fun q => B.iter prog w _ _ ⟨hp, g, d, tk, os⟩ _ h1 q
  wp_walk using goB
  refine wpAny_stack_any fun st => wpAny_pure ?_
  split
  · rename_i c _ _ _ _ _
    cases (c == Value.type "enumerate") <;> (wp_walk using goB; exact ⟨_, rfl, h⟩)
  · wp_walk using goB
    exact ⟨_, rfl, h⟩
theorem call_enum1 {prog : Program} {w : World} {A : Around} {E : Value → Shared → Prop} {s : Shared} {v : Value} {o : Obj} {G : Heap → Prop} {Q : Value → Shared → Prop} (B : Begins v o G) (h1 : G s.heap)
    (h : ∀ h', IsEnum h' (s.heap.objs.size + 1) s.heap.objs.size 0 .none → h'.get? s.heap.objs.size = some o → (∀ b o, s.heap.get? b = some o → h'.get? b = some o) → Q (.ref (s.heap.objs.size + 1)) { s with heap := h' }) :
    wpAny (model prog w) A (call (.type "enumerate") [v]) Q E s := by
  refine callType_new PySem.F.called_enumerate (by decide) (PySem.F.typeCall_enumerate_1 _) (PySem.F.newCall_enumerate_1 _) (fun obj => PySem.F.args_object_init_2 obj _) PySem.F.entry_enumerate_new (enum_new1 B) ⟨h1, ?_⟩
  have hz : (s.heap.push o).objs.size = s.heap.objs.size + 1 := Heap.size_push ..
  show _ ∧ _
  rw [hz]
  have he : IsEnum ((s.heap.push o).push { cls := .type "enumerate", data := .fields #[.none, .bool false, .ref s.heap.objs.size, rawInt 0, .none, .none] }) (s.heap.objs.size + 1) s.heap.objs.size 0 .none := by
    have q := Heap.get?_push_size (s.heap.push o) (o := { cls := .type "enumerate", data := .fields #[.none, .bool false, .ref s.heap.objs.size, rawInt 0, .none, .none] }) rfl
    rwa [hz] at q
  exact ⟨⟨_, he, rfl⟩, h _ he (Heap.get?_push_of_some _ (Heap.get?_push_size _ B.free)) fun b o x => Heap.get?_push_of_some _ (Heap.get?_push_of_some _ x)⟩
def IteT (K : PySem.W.Frag) (a : Addr) : It :=
  ⟨fun i H => ∃ (xs : List V) (x : V), SqT K H a xs ∧ xs[i]? = some x, fun i H v H' => ∃ T x, v = .ref T ∧ H T = none ∧ H' = upd H T (.tup [.int (i : Nat), x]) ∧ ∀ xs, SqT K H a xs → xs[i]? = some x, fun i H => ∃ xs : List V, SqT K H a xs ∧ xs.length ≤ i⟩
theorem turn_enumT {P : Program} {w : World} {K : PySem.W.Frag} {elts : List Expr} {kk : Nat} {tpos : Pos} (a e it : Addr) (hae : a ≠ e) (hai : a ≠ it) :
    Turn P w K (.Tuple elts kk tpos) (IteT K a) [e, it] e (fun i h => (∃ old, IsEnum h e it ((i : Nat) : Int) old) ∧ h.IsTupleIter it a i ∧ e ≠ it) where
  mem := by simp
  obj := fun i h st b hb => by
    obtain ⟨⟨old, he⟩, ⟨o, ho, hc, hd⟩, _⟩ := st
    have e' : b = e ∨ b = it := by simpa using hb
    rcases e' with z | z
    · rw [z]; exact ⟨_, he, fun v q => nomatch q⟩
    · rw [z]; exact ⟨o, ho, fun v q => by rw [hd] at q; cases q⟩
  keep := fun i h h' st k => let ⟨⟨old, he⟩, hi, hne⟩ := st; ⟨⟨old, k e (by simp) _ he⟩, hi.at fun o q => k it (by simp) o q, hne⟩
  item := by
    intro X hP hw hK hc i pins s σ H E I hf st hg
    subst hP hw hK
    obtain ⟨⟨old, he⟩, hit, hne⟩ := st
    obtain ⟨xs, x, hq, hx⟩ := hg
    obtain ⟨its, rv, p, hz⟩ := I.tuple hq
    obtain ⟨u, hu, ru⟩ := rv.get hx
    have hel : e < s.heap.objs.size := Heap.lt_size he
    have hil : it < s.heap.objs.size := by obtain ⟨_, q, _⟩ := hit; exact Heap.lt_size q
    have hlt : i < its.toArray.size := by rw [List.size_toArray]; exact (List.getElem?_eq_some_iff.mp hu).1
    refine wpAny_pyNext_enum_itemD (Draws.tuple (A := X.A.in1) (show X.A.in1.handled = none from I.ok.hd hc) it a hai its.toArray) he ⟨hit, p⟩ hlt hne (by simp [hne, Ne.symm hae]) fun x1 h' tk px ho st' hT hsz hk => ?_
    obtain ⟨hit', _⟩ := st'
    have ex1 : x1 = u := by
      rw [List.getElem?_toArray, hu] at px
      exact (Option.some.inj px).symm
    subst ex1
    refine ⟨_, rfl, wpAny_letOwnedTupleGo_enum (s := { s with heap := h', toks := tk + 1 }) ho fun h'' he' sb => ?_⟩
    have hT2 : h''.get? s.heap.objs.size = some { cls := .type "tuple", data := .seq #[.int i tk, x1] } := (sb.2 _ (Nat.ne_of_gt hel)).trans hT
    have new : ObjOk X.prog X.w (upd H s.heap.objs.size (.tup [.int (i : Nat), x])) h'' s.heap.objs.size (.tup [.int (i : Nat), x]) :=
      ⟨by show 2 ≤ sizeLine; decide, [.int i tk, x1], .cons ⟨_, rfl⟩ (.cons ru .nil), ⟨_, hT2, rfl, _, rfl⟩⟩
    have I1 : Inv X pins σ (upd H s.heap.objs.size (.tup [.int (i : Nat), x])) { s with heap := h'', toks := tk + 1 } :=
      I.turnedNew (ch := [e, it]) (fun b ob hb q => (sb.2 b (fun z => hb (by simp [z]))).trans (hk b ob (fun z => hb (by simp [z])) (fun z => hb (by simp [z])) q)) hf (Nat.le_refl _) new
    refine ⟨.ref s.heap.objs.size, _, I1, rfl, ⟨_, x, rfl, I.hok.fresh (Nat.le_refl _), rfl, fun ys hy => by rw [I.tuple_inj hy hq]; exact hx⟩, ⟨⟨x1, ?_⟩, hit'.at fun o q => (sb.2 it (Ne.symm hne)).trans q, hne⟩, fun b hb => ?_⟩
    · rw [show ((i + 1 : Nat) : Int) = (i : Int) + 1 by omega]; exact he'
    · have hb' : b < s.heap.objs.size := by
        rcases (by simpa using hb : b = e ∨ b = it) with z | z
        · rw [z]; exact hel
        · rw [z]; exact hil
      rw [upd_ne (Nat.ne_of_lt hb')]; exact (hf b hb).1
  done := by
    intro X hP hw hK hc i pins s σ H E I hf st hg
    subst hP hw hK
    obtain ⟨⟨old, he⟩, hit, hne⟩ := st
    obtain ⟨xs, hq, hx⟩ := hg
    obtain ⟨its, rv, p, hz⟩ := I.tuple hq
    obtain ⟨f0, f1, f2, f3, f4, f5⟩ := hf it (by simp)
    have hl := rv.length
    have hno : (its.toArray)[i]? = none := by rw [List.getElem?_toArray, List.getElem?_eq_none_iff]; omega
    have D : Draws X.prog X.w X.A.in1 it [it, a] i (fun _ _ => True) (fun j h => j = i ∧ h.IsTupleIter it a i ∧ h.IsTuple a its.toArray) :=
      ⟨fun _ _ st => ⟨_, st.2.1.choose_spec.1⟩, fun _ _ _ st hk => ⟨st.1, st.2.1.at fun o q => hk it (by simp) o q, st.2.2.at fun o q => hk a (by simp) o q⟩,
        fun j s Q E hj st _ => absurd st.1 (Nat.ne_of_lt hj), fun s Q E st hE => wpAny_nextOf_tuple_end (show X.A.in1.handled = none from I.ok.hd hc) st.2.1 st.2.2 hno hE⟩
    exact wpAny_pyNext_enum_endD D he ⟨rfl, hit, p⟩ fun h' eb => ⟨rfl, I.turned (t' := s.toks) (fun b o hb q => eb b o hb q) f0 f1 f3 f4 f5⟩
  self := fun A i s Q E st h => let ⟨⟨_, he⟩, _⟩ := st; wpAny_pyIter_enum he h
def iEnumT (K : PySem.W.Frag) (ta : TA) : TI := fun σ H R => ta σ H fun vs H1 => ∃ a xs, vs = [.ref a] ∧ SqT K H1 a xs ∧ R (IteT K a) H1
theorem pi_enumT {X : Cx} {e : Expr} {ta : TA} {p pos tpos : Pos} {elts : List Expr} {kk : Nat} (hg : Gl X "enumerate") (hm : X.mg "enumerate" = none) (ha : PA X [e] ta) (hs : starEach [e] X.env = [(false, eval e X.env)] := by rfl) :
    PI X (.Tuple elts kk tpos) (.Call (.Name "enumerate" p) [e] [] pos) (iEnumT X.K ta) := by
  refine ⟨fun pins s σ H R I h => ?_⟩
  refine Call_ (ld_blt I hg hm boot_enumerate (PyProof.Rows.callWith_type1 (thn (ha.run pos pins s σ H _ I h) fun us s1 ⟨vs, H1, I1, r1, a, xs, ex, hq, q⟩ => ?_) hs rfl))
  subst ex
  obtain rfl := Vals.ref1 r1
  obtain ⟨its, rv, p', hz⟩ := I1.tuple hq
  have hal : a < s1.heap.objs.size := by obtain ⟨_, z, _⟩ := p'; exact Heap.lt_size z
  refine call_enum1 (begins_tuple a its.toArray) (show s1.heap.IsTuple a its.toArray from p') fun h' he hit hk => wpAny_pyIter_enum he ?_
  have I2 : Inv X pins σ H1 { s1 with heap := h' } := I1.kept (t' := s1.toks) hk
  refine ⟨s1.heap.objs.size + 1, [s1.heap.objs.size + 1, s1.heap.objs.size], _, _, H1, rfl, I2, turn_enumT a (s1.heap.objs.size + 1) s1.heap.objs.size (Nat.ne_of_lt (Nat.lt_succ_of_lt hal)) (Nat.ne_of_lt hal), ⟨⟨.none, he⟩, ⟨_, hit, rfl, rfl⟩, Nat.succ_ne_self _⟩, fun b hb => ?_, q⟩
  have hle : s1.heap.objs.size ≤ b := by
    rcases (by simpa using hb : b = s1.heap.objs.size + 1 ∨ b = s1.heap.objs.size) with z | z
    · rw [z]; exact Nat.le_add_right _ _
    · rw [z]; exact Nat.le_refl _
  exact I1.fpOk hle (I1.hok.fresh hle)
theorem walk_enumT {K : PySem.W.Frag} {a : Addr} {xs : List V} : Walk (IteT K a) xs.length (fun H => SqT K H a xs) (YPair (fun i => some (.int (i : Nat))) (fun i => xs[i]?)) := by
  refine ⟨fun i _ hi q => ⟨xs, xs[i], q, by simp [hi]⟩, fun _ q => ⟨xs, q, Nat.le_refl _⟩, fun i H v H' _ q y => ?_⟩
  obtain ⟨T, x, h1, h2, h3, h4⟩ := y
  exact ⟨T, .int (i : Nat), x, h1, h2, h3, rfl, h4 xs q⟩
end My
set_option maxRecDepth 100000
set_option maxHeartbeats 4000000
namespace PySem.SeqAt
open PySem PySem.Spec PyProof.Rows
/-- tuple's own __lt__, called as sorting calls it -/
theorem call_tuple_lt {prog : Program} {w : World} {A : Around} {s : Shared} {E : Value → Shared → Prop} {Q : Value → Shared → Prop} {l b : Addr} {items items2 : Array Value} {e r : Nat → Bool} (hl : s.heap.IsTuple l items) (hb : s.heap.IsTuple b items2)
    (he : ∀ j (h1 : j < items.size) (h2 : j < items2.size), EqAt A.in1 s items[j] items2[j] (e j)) (hr : ∀ j (h1 : j < items.size) (h2 : j < items2.size), e j = false → RcLt A.in1 s items[j] items2[j] (r j))
    (h : Q (.bool (firstLt e r (decide (items.size < items2.size)) (List.range (min items.size items2.size)))) s) : wpAny (model prog w) A (call (.builtin "tuple.__lt__") [.ref l, .ref b]) Q E s := by
  obtain ⟨⟨cls, dd, data, sl⟩, ho, hc, n, hd⟩ := id hl
  obtain ⟨⟨cls2, dd2, data2, sl2⟩, ho2, hc2, n2, hd2⟩ := id hb
  simp only at hc hd hc2 hd2
  subst hc hd hc2 hd2
  exact call_meets F.slot_tuple_lt ⟨_, ho, rfl⟩ F.entry_tuple_lt (F.args_tuple_lt_2 _ _) (tuple_ltAt l b items items2 n n2 dd dd2 sl sl2 e r) ⟨ho, ho2, he, hr, h⟩
end PySem.SeqAt
namespace PySem.W
open PySem PySem.Calls PyProof.Rows PySem.SeqAt
abbrev encT (b : List Int) : PyData := .tuple (b.map .int)
abbrev encL (b : List Int) : PyData := .list (b.map .int)
section
variable {prog : Program} {w : World} {A : Around} {E : Value → Shared → Prop} {s : Shared}
theorem oneLt_tup {xs ys : List PyData} {a b : Value} {as bs : List Addr} {Q : Bool → Shared → Prop} (ra : Reads s.heap a (.tuple xs) as) (rb : Reads s.heap b (.tuple ys) bs) (hal : alikeAll xs ys = true)
    (hu : A.units + min (PyData.depth (.tuple xs)) (PyData.depth (.tuple ys)) < cLine) (hq : Q (dataLt (.tuple xs) (.tuple ys)) s) : wpAny (model prog w) A (oneLt' true a b) Q E s := by
  cases ra with
  | @tuple l o vs n _ as₁ h1 h2 h3 h4 =>
    cases rb with
    | @tuple l' o' vs' n' _ bs₁ k1 k2 k3 k4 =>
      have n1 : vs.size = xs.length := by simpa using ReadsAll.length _ _ _ h4
      have n2 : vs'.size = ys.length := by simpa using ReadsAll.length _ _ _ k4
      rw [dataLt_tuple, ← firstLt_toks xs ys hal, ← n1, ← n2] at hq
      rw [oneLt'_eq]
      simp only [if_true]
      refine wpAny_bind (wpAny_cRoomFor (room_here hu) ?_)
      refine wpAny_bind (wpAny_callSpecialIfBound?_slot (T := "tuple") ⟨_, h1, h2⟩ F.slot_tuple_lt (call_tuple_lt (e := pairEq xs ys) (r := fun j => dataLt (xs.getD j .none) (ys.getD j .none)) ⟨_, h1, h2, _, h3⟩ ⟨_, k1, k2, _, k3⟩ (fun j j1 j2 => ?_) (fun j j1 j2 hj => ?_) ?_))
      · have := eqAt_alikeAll xs ys A.in1 s vs.toList vs'.toList _ _ h4 k4 hal (room_in hu) j (by simpa using j1) (by simpa using j2)
        simpa using this
      · have := rcLt_alikeAll xs ys A.in1 s vs.toList vs'.toList _ _ h4 k4 hal (room_in hu) j (by simpa using j1) (by simpa using j2) hj
        simpa using this
      · exact wpAny_truthy_bool hq
end
/-! ### which kind of keys tuples of ints are -/
section
variable {M : Model} {A : Around} {E : Value → Shared → Prop} {s : Shared}
theorem tup_firsts : ∀ (vs : List Value) (bs : List (List Int)) {Q : List (Option Value) → Shared → Prop}, EachIs (fun v b => ∃ as, Reads s.heap v (encT b) as) vs bs → (∀ fs : List (Option Value), EachIs (fun f b => f.isSome = !b.isEmpty) fs bs → Q fs s) → wpAny M A (vs.mapM firstOfTuple') Q E s
  | [], [], _, _, h => by rw [List.mapM_nil]; exact wpAny_pure (h [] .nil)
  | [], _ :: _, _, e, _ => nomatch e
  | _ :: _, [], _, e, _ => nomatch e
  | v :: vs, b :: bs, Q, .cons ⟨as, r⟩ e, h => by
    rw [List.mapM_cons]
    refine wpAny_bind ?_
    rw [kas_first_eq]
    cases r with
    | @tuple a o xs n _ _ ho hc hd hr =>
      refine wpAny_bind (Looks.here (show Looks M s.heap (typeOf (.ref a)) o.cls from (Looks.ld ho).andThen .now) ?_)
      rw [hc, if_neg (by first | decide | simp)]
      refine wpAny_bind (listItems_at ho hd (wpAny_pure ?_))
      refine wpAny_bind (tup_firsts vs bs (Q := fun fs s' => wpAny M A (pure (xs[0]? :: fs)) Q E s') e fun fs hf => wpAny_pure (h _ (.cons ?_ hf)))
      have hl := SeqAt.ReadsAll.length _ _ _ hr
      rw [List.length_map] at hl
      have hl : xs.size = b.length := by simpa using hl
      cases b with
      | nil => rw [Array.getElem?_eq_none (by rw [hl]; exact Nat.zero_le _)]; rfl
      | cons x t => rw [Array.getElem?_eq_getElem (by rw [hl]; exact Nat.succ_pos _)]; rfl
theorem tup_kind {vs : List Value} {bs : List (List Int)} {Q : SortKind → Shared → Prop} (e : EachIs (fun v b => ∃ as, Reads s.heap v (encT b) as) vs bs) {b0 : List Int} {bt : List (List Int)} (hb : bs = b0 :: bt) (hne : [] ∈ bs)
    (h : Q (if b0.isEmpty then oneType' else general') s) : wpAny M A (keyKind' vs.toArray) Q E s := by
  rw [keyKind'_eq, List.mapM_toArray, map_eq_pure_bind]
  refine wpAny_bind (wpAny_bind (tup_firsts vs bs e fun fs hf => wpAny_pure ?_))
  have hall : ¬ (fs.toArray.all fun x => x.isSome) = true := fun z => by
    simp only [List.all_toArray, List.all_eq_true] at z
    have : ∀ {fs : List (Option Value)} {bs : List (List Int)}, EachIs (fun f b => f.isSome = !b.isEmpty) fs bs → (∀ f ∈ fs, f.isSome = true) → [] ∉ bs := by
      intro fs bs hf
      induction hf with
      | nil => intro _ h; cases h
      | cons h t ih =>
        intro z hm
        rcases List.mem_cons.mp hm with hm | hm
        · subst hm
          have := z _ List.mem_cons_self
          rw [h] at this
          cases this
        · exact ih (fun f hf => z f (List.mem_cons_of_mem _ hf)) hm
    exact this hf z hne
  rw [if_neg hall]
  subst hb
  cases hf with
  | @cons f _ ft _ h0 ht =>
  have e0 : ((f :: ft).toArray[0]?.bind id) = f := by simp
  rw [e0]
  cases b0 with
  | cons x t =>
    have h0 : f.isSome = true := h0
    rw [if_pos h0]
    exact wpAny_pure h
  | nil =>
    have h0 : f.isSome = false := h0
    rw [if_neg (by rw [h0]; decide)]
    rw [oneTypeOnly'_eq, List.mapM_toArray, map_eq_pure_bind]
    have tk : ∀ {vs : List Value} {bs : List (List Int)}, EachIs (fun v b => ∃ as, Reads s.heap v (encT b) as) vs bs → ∀ v ∈ vs, Looks M s.heap (typeOf v) (.type "tuple") := by
      intro vs bs e
      induction e with
      | nil => intro v hv; cases hv
      | cons h t ih =>
        intro v hv
        rcases List.mem_cons.mp hv with rfl | hv
        · obtain ⟨as, r⟩ := h
          exact looks_reads r
        · exact ih v hv
    refine wpAny_bind (wpAny_bind (wpAny_bind (kas_mapM (r := Value.type "tuple") _ (fun v hv Q' hq => (tk e v hv).here hq) (wpAny_pure ?_))))
    have hlen : 0 < vs.length := by rw [e.length]; exact Nat.succ_pos _
    have hall2 : ((List.map (fun _ => Value.type "tuple") vs).toArray.all fun x => x == Value.type "tuple") = true := by
      simp only [List.all_toArray, List.all_map, List.all_eq_true]
      intro _ _
      exact beq_self_eq_true _
    have h00 : (List.map (fun _ => Value.type "tuple") vs).toArray[0]? = some (Value.type "tuple") := by
      cases vs with
      | nil => cases hlen
      | cons a t => simp
    rw [h00]
    simp only [hall2, if_true]
    exact wpAny_pure (wpAny_pure h)
end
section
variable {prog : Program} {w : World} {A : Around} {E : Value → Shared → Prop} {s : Shared}
theorem alike_encT (b b' : List Int) : alike (encT b) (encT b') = true := by
  show alikeAll _ _ = true
  exact alike_ints b b'
theorem depth_encT (b : List Int) : (encT b).depth = 1 := by
  show PyData.depth (.tuple _) = 1
  simp only [PyData.depth]
  rw [depth_ints]
theorem SortsAt.tupI {vs : List Value} {bs : List (List Int)} (e : EachIs (fun v b => ∃ as, Reads s.heap v (encT b) as) vs bs) (hu : A.units + 2 < cLine) : SortsAt prog w A s (dataKind s.heap (bs.map encT)) vs := by
  have e' := each_map (R := fun v d => ∃ as, Reads s.heap v d as) encT e
  have hal : AllAlike (bs.map encT) := AllAlike.of fun b b' => alike_encT b b'
  have hd : ∀ d ∈ bs.map encT, A.units + d.depth < cLine := fun d hd => by
    obtain ⟨b, _, rfl⟩ := List.mem_map.mp hd
    rw [depth_encT]; omega
  by_cases hne : [] ∈ bs
  · cases bs with
    | nil => cases hne
    | cons b0 bt =>
    refine ⟨fun v hv => ?_, ⟨_, ?_, fun h2 E Q hq => tup_kind e rfl hne hq⟩⟩
    · obtain ⟨d, hd, as, r⟩ := e'.left v hv
      exact ⟨_, dataKind_some hal hd r⟩
    · intro E x y a b Q ha hb hq
      obtain ⟨d, as, hd1, ra, rfl⟩ := dataKind_inv ha
      obtain ⟨d', as', hd', rb, rfl⟩ := dataKind_inv hb
      have hq : Q (dataLt d d') s := hq
      obtain ⟨c, _, rfl⟩ := List.mem_map.mp hd1
      obtain ⟨c', _, rfl⟩ := List.mem_map.mp hd'
      have hroom : A.units + min (encT c).depth (encT c').depth < cLine := by rw [depth_encT, depth_encT]; omega
      split
      · rw [keyLt'_oneType]
        exact oneLt_tup ra rb (alike_ints c c') hroom hq
      · show wpAny _ _ (oneLt' false x y) _ _ _
        exact oneLt_alike (fun z => nomatch z) ra rb (alike_encT c c') (fun z => nomatch z) hroom hq
  · exact SortsAt.data e' hal (.inl fun d hd => by
      obtain ⟨b, hb, rfl⟩ := List.mem_map.mp hd
      cases b with
      | nil => exact absurd hb hne
      | cons x t => exact ⟨_, _, rfl⟩) hd
theorem dataLe_encT : dataLe false encT = fun p q : List Int => decide (p ≤ q) := by
  rw [← dataLe_rows (fun b : List Int => b)]
  funext p q
  show (!dataLt (encT q) (encT p)) = !dataLt (encL q) (encL p)
  rw [show dataLt (encT q) (encT p) = dataLt (encL q) (encL p) from (dataLt_tuple _ _).trans (dataLt_list _ _).symm]
/-- sorted of tuples of ints, empty ones among them -/
theorem sorted_tupsI {l : Addr} {vs : List Value} {bs : List (List Int)} {R : Value → List Int → Prop} {Q : Value → Shared → Prop} (hl : s.heap.IsList l vs.toArray) (e : EachIs R vs bs) (er : EachIs (fun v b => ∃ as, Reads s.heap v (encT b) as) vs bs) (hL : bs.length ≤ sizeLine)
    (hu : A.units + 4 < cLine) (h : ∀ out, out.length = bs.length → EachIs R out (bs.mergeSort fun p q => decide (p ≤ q)) → Q (.ref (s.heap.objs.size + 1)) { s with heap := sortedAll s.heap vs (List.toArray out) }) :
    wpAny (model prog w) A (call (.builtin "sorted") [.ref l]) Q E s := by
  have er' : EachIs (fun v b => ∃ as, Reads (sortingHeap (copyHeap s.heap vs) (s.heap.objs.size + 1) vs) v (encT b) as) vs bs := er.mono fun _ _ ⟨as, r⟩ => ⟨as, PyProof.Rows.Reads.keeps (fun _ _ => sorting_copy_old) r⟩
  refine sorted_vals hl (SortsAt.tupI (s := { s with heap := sortingHeap (copyHeap s.heap vs) (s.heap.objs.size + 1) vs }) er' (by show A.units + 1 + 1 + 2 < cLine; omega)) (by rw [e.length]; exact hL) ?_
  refine h _ (by rw [sortVals_length false rfl]; exact e.length) ?_
  have := sortVals_data false e er' (AllAlike.of fun b b' => alike_encT b b')
  rw [dataLe_encT] at this
  exact this
end
end PySem.W
namespace L2
open PySem PySem.Spec PyProof.Rows PySem.W
theorem vals_each {Rv : V → List Int → Prop} : ∀ {xs : List V} {us : List Value} {bs : List (List Int)}, Vals xs us → EachIs Rv xs bs → EachIs (fun v b => ∃ x, RelV x v ∧ Rv x b) us bs
  | _, _, _, .nil, .nil => .nil
  | _, _, _, .cons r t, .cons h e => .cons ⟨_, r, h⟩ (vals_each t e)
theorem each_vals {Rv : V → List Int → Prop} : ∀ {us : List Value} {bs : List (List Int)}, EachIs (fun v b => ∃ x, RelV x v ∧ Rv x b) us bs → ∃ ys, Vals ys us ∧ EachIs Rv ys bs
  | _, _, .nil => ⟨[], .nil, .nil⟩
  | _, _, .cons ⟨x, r, h⟩ e => let ⟨ys, a, b⟩ := each_vals e; ⟨x :: ys, .cons r a, .cons h b⟩
def rSortD (K : PySem.W.Frag) (enc : List Int → PyData) : List V → Hp → VK → Prop := fun vs H Q => ∃ (a : Addr) (xs : List V) (bs : List (List Int)) (Rv : V → List Int → Prop), vs = [.ref a] ∧ SqL K H a xs ∧ EachIs Rv xs bs ∧ (∀ x b, Rv x b → Dp K H x (enc b)) ∧
  ∀ ys p, EachIs Rv ys (bs.mergeSort fun p q => decide (p ≤ q)) → H p = none → Q (.ref p) (upd H p (.lst ys))
section
variable {X : Cx}
theorem cr_sortTI (hu : X.A.units + 10 < cLine) : CallR X (.builtin "sorted") (rSortD X.K encT) := by
  intro pins s σ H vs us Q I r h
  obtain ⟨a, xs, bs, Rv, rfl, hs, hx, hd, q⟩ := h
  obtain ⟨its, rv, hl, hz⟩ := I.list hs
  obtain ⟨u, rfl, ru⟩ := vals1 r
  obtain rfl : u = Value.ref a := ru
  have e := vals_each rv hx
  have er : EachIs (fun v b => ∃ as, Reads s.heap v (encT b) as) its bs := e.mono fun v b ⟨x, rx, hr⟩ => Dp.reads I _ _ _ (hd x b hr) rx
  have hbl : bs.length = its.length := e.length.symm
  refine sorted_tupsI hl.isList e er (by rw [hbl, ← rv.length]; exact hz) (by omega) fun out ho eo => ?_
  obtain ⟨ys, vy, ey⟩ := each_vals eo
  obtain ⟨ep, he'⟩ := PyProof.Rows.sortedAll_at s.heap its (List.toArray out)
  have hlen : ys.length ≤ sizeLine := by rw [vy.length, ho, hbl, ← rv.length]; exact hz
  exact ⟨.ref _, upd H (s.heap.objs.size + 1) (.lst ys), I.laid (t' := s.toks) (fun _ _ => PyProof.Rows.sortedAll_old) (Nat.le_succ _) ⟨hlen, out, ep, vy, he'⟩, rfl, q _ _ ey (I.hok.fresh (Nat.le_succ _))⟩
theorem cr_sortLI (hu : X.A.units + 10 < cLine) : CallR X (.builtin "sorted") (rSortD X.K encL) := by
  intro pins s σ H vs us Q I r h
  obtain ⟨a, xs, bs, Rv, rfl, hs, hx, hd, q⟩ := h
  obtain ⟨its, rv, hl, hz⟩ := I.list hs
  obtain ⟨u, rfl, ru⟩ := vals1 r
  obtain rfl : u = Value.ref a := ru
  have e := vals_each rv hx
  have er : EachIs (fun v b => ∃ as, Reads s.heap v (encL b) as) its bs := e.mono fun v b ⟨x, rx, hr⟩ => Dp.reads I _ _ _ (hd x b hr) rx
  have hbl : bs.length = its.length := e.length.symm
  refine sorted_data hl.isList e er (AllAlike.of fun b b' => by show alikeAll _ _ = true; exact alike_ints b b') (Sortable.others fun b => ⟨fun z => (nomatch z), fun _ z => (nomatch z)⟩) (by rw [hbl, ← rv.length]; exact hz) (fun b _ => ?_) fun out ho eo => ?_
  · have : (encL b).depth = 1 := by show PyData.depth (.list _) = 1; simp only [PyData.depth]; rw [depth_ints]
    omega
  rw [show dataLe false encL = fun p q : List Int => decide (p ≤ q) from dataLe_rows (fun b : List Int => b)] at eo
  obtain ⟨ys, vy, ey⟩ := each_vals eo
  obtain ⟨ep, he'⟩ := PyProof.Rows.sortedAll_at s.heap its (List.toArray out)
  have hlen : ys.length ≤ sizeLine := by rw [vy.length, ho, hbl, ← rv.length]; exact hz
  exact ⟨.ref _, upd H (s.heap.objs.size + 1) (.lst ys), I.laid (t' := s.toks) (fun _ _ => PyProof.Rows.sortedAll_old) (Nat.le_succ _) ⟨hlen, out, ep, vy, he'⟩, rfl, q _ _ ey (I.hok.fresh (Nat.le_succ _))⟩
end
end L2
set_option maxRecDepth 100000
set_option maxHeartbeats 4000000
namespace My
open PySem L2 PySem.Spec PyProof.Rows
section
variable {X : Cx} {CX : CXT} {n : Nat} {f C : Addr} {fd : FuncData} {ps : List Str} {sp : Sp}
/-- a promise that may raise, called anywhere in the running body -/
theorem call_atS {σ : L2.St} {E : XK} (G0 : FnOk X.prog X.w X.K X.mg X.base CX n f fd ps sp) (hb : Binds X.K fd ps []) (hx : PassesAt CX X σ E) {A : Around} (hr : Room n A) (hA : A.frames = X.A.frames)
    {pins : List (Addr × Obj)} {s : Shared} {H : Hp} (I : Inv X pins σ H s) {vs : List V} {us : List Value} (r : Vals vs us) {Q : VK} (h : sp vs H Q E) :
    wpAny (model X.prog X.w) A (call (.ref f) us) (EP X pins σ Q) X.xe s := by
  have e0 : Env0 X.prog X.w X.K X.mg X.base A X.stack s H := by
    have e := I.env0
    exact ⟨by rw [hA]; exact e.frames, e.mod, e.bs, e.bsz, e.funs, e.frf, e.hok, e.bare⟩
  have hl := G0.len _ _ _ _ h
  refine wpAny_call (codeAny_mono (G0.run A X.stack s H ⟨us, []⟩ us vs Q E hr e0 (by
    have := hb s us I.kIn (by rw [List.append_nil, ← r.length]; exact hl)
    simpa using this) r h) fun r s' hq => ?_)
  cases r with
  | error e => exact hx pins H s e s' I hq
  | ok fl =>
    cases fl with
    | ret w => exact I.after hq
    | next => exact False.elim hq
    | brk => exact False.elim hq
    | cont => exact False.elim hq
/-- a[b], a an instance of the class at C with its own __getitem__ -/
def tIxOwn (C : Addr) (sp : Sp) (E : L2.St → XK) (ta tb : TE) : TE := fun σ H Q => ta σ H fun x H1 => tb σ H1 fun y H2 => ∃ p dx fs, x = .ref p ∧ H2 p = some (.ins C dx fs) ∧ sp [.ref p, y] H2 Q (E σ)
theorem pe_ixOwn {a b : Expr} {ta tb : TE} {pos : Pos} {E : L2.St → XK} (G0 : FnOk X.prog X.w X.K X.mg X.base CX n f fd ps sp) (hb : Binds X.K fd ps []) (hx : ∀ σ, PassesAt CX X σ (E σ)) (hr : Room (n + 1) X.A)
    (hs : PySem.W.findIn X.K (.ref C) "__getitem__" = some (some (.ref f))) (hf : PySem.W.fnIn X.K f = true) (hfn : PySem.W.isFn X.K (.ref f) = true) (ha : PE X a ta) (hbb : PE X b tb)
    (hsl : ∀ x i, subscripted b true (.ref x) i = runValue (.builtin "lifetime.subscript" ⟨[.ref x, i], []⟩)) : PE X (.Subscript a b pos) (tIxOwn C sp E ta tb) := by
  refine ⟨fun pins s σ H Q I h => ?_⟩
  refine Subscript_ (binT ha hbb I h fun v u s2 x y H2 I2 rx ry q => ?_)
  obtain ⟨p, dx, fs, rfl, hp, q⟩ := q
  cases rx
  obtain ⟨mA, J, _⟩ := ins_get I2.hok hp
  obtain ⟨od, J, _⟩ := J.look
  obtain ⟨m, hF⟩ := I2.fr
  exact PySem.W.sub_K hF I2.ok.mod.kin J hs hf hfn (call_atS G0 hb (hx σ) (A := X.A.in1) hr.in1 rfl I2 (vs := [.ref p, y]) (.cons rfl (.cons ry .nil)) q) (hsl _ _)
end
end My
set_option maxRecDepth 100000
set_option maxHeartbeats 4000000
namespace My
open PySem L2
def top (i : Nat) : Stmt := PySem.Challenge.pw_unbrokenrows_k05_orders_and_runs.main.body.getD i (.Pass ⟨0, 0, 0, 0⟩)
abbrev s_BadOrder_init : Stmt := inClass (top 7) 0
abbrev s_UnknownRow_init : Stmt := inClass (top 5) 0
abbrev s_is_name : Stmt := top 10
abbrev s_first_bad_name : Stmt := top 11
abbrev s_first_stray : Stmt := top 12
abbrev s_order_fault : Stmt := top 14
abbrev s_count_runs : Stmt := top 15
abbrev s_runs_of : Stmt := top 16
abbrev s_check_order : Stmt := top 17
abbrev s_run_count : Stmt := top 18
abbrev s_broken : Stmt := top 19
abbrev s_is_layout : Stmt := top 20
abbrev s_extent : Stmt := top 21
abbrev s_gap_rows : Stmt := top 22
abbrev s_common_rows : Stmt := top 23
abbrev s_check_columns : Stmt := top 25
abbrev s_check_rows : Stmt := top 26
abbrev s_Table_in_order : Stmt := inClass (top 27) 3
abbrev s_Table_init : Stmt := inClass (top 27) 2
abbrev s_Table_getitem : Stmt := inClass (top 27) 18
abbrev s_Table_len : Stmt := inClass (top 27) 19
abbrev s_Table_iter : Stmt := inClass (top 27) 20
abbrev s_law_cell : Stmt := top 29
abbrev s_law_pool : Stmt := top 30
abbrev s_law_word : Stmt := top 31
abbrev s_law_new : Stmt := top 32
abbrev s_law_sequence : Stmt := top 33
abbrev s_law_row : Stmt := top 34
abbrev s_law_spoiled : Stmt := top 35
abbrev s_law_misfit : Stmt := top 36
abbrev s_law_is_count : Stmt := top 37
abbrev s_law_called : Stmt := top 38
abbrev s_law_refused : Stmt := top 39
abbrev s_law_no_row : Stmt := top 40
abbrev s_law_runs : Stmt := top 41
abbrev s_law_row_is : Stmt := top 42
abbrev s_law_numbers_are : Stmt := top 43
abbrev s_law_gaps_are : Stmt := top 44
abbrev s_law_order_is : Stmt := top 45
abbrev s_law_list_is : Stmt := top 46
abbrev s_law : Stmt := top 47
theorem ss_BadOrder_init : SupScope ["self", "index"] ["self", "index"] (defScope s_BadOrder_init) := ⟨rfl, rfl, rfl, by decide +kernel, rfl, by decide +kernel, by decide +kernel, by decide +kernel, rfl, rfl⟩
theorem ss_UnknownRow_init : SupScope ["self", "number"] ["self", "number"] (defScope s_UnknownRow_init) := ⟨rfl, rfl, rfl, by decide +kernel, rfl, by decide +kernel, by decide +kernel, by decide +kernel, rfl, rfl⟩
theorem sc_is_name : FnScope ["text", "sign"] ["text"] (defScope s_is_name) := ⟨rfl, rfl, rfl, by decide +kernel, rfl, by decide +kernel, by decide +kernel⟩
theorem sc_first_bad_name : FnScope ["names", "index", "name"] ["names"] (defScope s_first_bad_name) := ⟨rfl, rfl, rfl, by decide +kernel, rfl, by decide +kernel, by decide +kernel⟩
theorem sc_first_stray : FnScope ["columns", "names", "index", "name"] ["columns", "names"] (defScope s_first_stray) := ⟨rfl, rfl, rfl, by decide +kernel, rfl, by decide +kernel, by decide +kernel⟩
theorem sc_order_fault : FnScope ["columns", "order", "index"] ["columns", "order"] (defScope s_order_fault) := ⟨rfl, rfl, rfl, by decide +kernel, rfl, by decide +kernel, by decide +kernel⟩
theorem sc_count_runs : FnScope ["flags", "at", "flag"] ["flags"] (defScope s_count_runs) := ⟨rfl, rfl, rfl, by decide +kernel, rfl, by decide +kernel, by decide +kernel⟩
theorem sc_runs_of : FnScope ["row", "order", "name"] ["row", "order"] (defScope s_runs_of) := ⟨rfl, rfl, rfl, by decide +kernel, rfl, by decide +kernel, by decide +kernel⟩
theorem sc_check_order : FnScope ["table", "order", "index"] ["table", "order"] (defScope s_check_order) := ⟨rfl, rfl, rfl, by decide +kernel, rfl, by decide +kernel, by decide +kernel⟩
theorem sc_run_count : FnScope ["table", "order", "number"] ["table", "order", "number"] (defScope s_run_count) := ⟨rfl, rfl, rfl, by decide +kernel, rfl, by decide +kernel, by decide +kernel⟩
theorem sc_broken : FnScope ["table", "order", "number", "row"] ["table", "order"] (defScope s_broken) := ⟨rfl, rfl, rfl, by decide +kernel, rfl, by decide +kernel, by decide +kernel⟩
theorem sc_is_layout : FnScope ["table", "order"] ["table", "order"] (defScope s_is_layout) := ⟨rfl, rfl, rfl, by decide +kernel, rfl, by decide +kernel, by decide +kernel⟩
theorem sc_extent : FnScope ["table", "order", "number", "row", "places", "place", "name"] ["table", "order", "number"] (defScope s_extent) := ⟨rfl, rfl, rfl, by decide +kernel, rfl, by decide +kernel, by decide +kernel⟩
theorem sc_gap_rows : FnScope ["table", "order", "at"] ["table", "order"] (defScope s_gap_rows) := ⟨rfl, rfl, rfl, by decide +kernel, rfl, by decide +kernel, by decide +kernel⟩
theorem sc_common_rows : FnScope ["table", "one", "other", "number", "row"] ["table", "one", "other"] (defScope s_common_rows) := ⟨rfl, rfl, rfl, by decide +kernel, rfl, by decide +kernel, by decide +kernel⟩
theorem sc_check_columns : FnScope ["columns", "index"] ["columns"] (defScope s_check_columns) := ⟨rfl, rfl, rfl, by decide +kernel, rfl, by decide +kernel, by decide +kernel⟩
theorem sc_check_rows : FnScope ["columns", "rows", "index", "row"] ["columns", "rows"] (defScope s_check_rows) := ⟨rfl, rfl, rfl, by decide +kernel, rfl, by decide +kernel, by decide +kernel⟩
theorem sc_Table_in_order : FnScope ["self", "names", "name"] ["self", "names"] (defScope s_Table_in_order) := ⟨rfl, rfl, rfl, by decide +kernel, rfl, by decide +kernel, by decide +kernel⟩
theorem sc_Table_init : FnScope ["self", "columns", "rows", "row"] ["self", "columns", "rows"] (defScope s_Table_init) := ⟨rfl, rfl, rfl, by decide +kernel, rfl, by decide +kernel, by decide +kernel⟩
theorem sc_Table_getitem : FnScope ["self", "at"] ["self", "at"] (defScope s_Table_getitem) := ⟨rfl, rfl, rfl, by decide +kernel, rfl, by decide +kernel, by decide +kernel⟩
theorem sc_Table_len : FnScope ["self"] ["self"] (defScope s_Table_len) := ⟨rfl, rfl, rfl, by decide +kernel, rfl, by decide +kernel, by decide +kernel⟩
theorem sc_Table_iter : FnScope ["self"] ["self"] (defScope s_Table_iter) := ⟨rfl, rfl, rfl, by decide +kernel, rfl, by decide +kernel, by decide +kernel⟩
theorem sc_law_cell : FnScope ["script", "k"] ["script", "k"] (defScope s_law_cell) := ⟨rfl, rfl, rfl, by decide +kernel, rfl, by decide +kernel, by decide +kernel⟩
theorem sc_law_pool : FnScope ["script", "k", "count", "value", "pool", "i", "first", "second", "third"] ["script", "k", "count"] (defScope s_law_pool) := ⟨rfl, rfl, rfl, by decide +kernel, rfl, by decide +kernel, by decide +kernel⟩
theorem sc_law_word : FnScope ["pool", "at", "code", "size", "word", "i"] ["pool", "at"] (defScope s_law_word) := ⟨rfl, rfl, rfl, by decide +kernel, rfl, by decide +kernel, by decide +kernel⟩
theorem sc_law_new : FnScope ["names", "word", "letters", "turn"] ["names", "word"] (defScope s_law_new) := ⟨rfl, rfl, rfl, by decide +kernel, rfl, by decide +kernel, by decide +kernel⟩
theorem sc_law_sequence : FnScope ["names", "draw", "left", "row", "k", "pick"] ["names", "draw"] (defScope s_law_sequence) := ⟨rfl, rfl, rfl, by decide +kernel, rfl, by decide +kernel, by decide +kernel⟩
theorem sc_law_row : FnScope ["columns", "hidden", "pool", "at", "found", "bits", "first", "name"] ["columns", "hidden", "pool", "at"] (defScope s_law_row) := ⟨rfl, rfl, rfl, by decide +kernel, rfl, by decide +kernel, by decide +kernel⟩
theorem sc_law_spoiled : FnScope ["order", "stranger", "pool", "way", "known", "more", "k", "i"] ["order", "stranger", "pool"] (defScope s_law_spoiled) := ⟨rfl, rfl, rfl, by decide +kernel, rfl, by decide +kernel, by decide +kernel⟩
theorem sc_law_misfit : FnScope ["columns", "order", "k"] ["columns", "order"] (defScope s_law_misfit) := ⟨rfl, rfl, rfl, by decide +kernel, rfl, by decide +kernel, by decide +kernel⟩
theorem sc_law_is_count : FnScope ["value", "due"] ["value", "due"] (defScope s_law_is_count) := ⟨rfl, rfl, rfl, by decide +kernel, rfl, by decide +kernel, by decide +kernel⟩
theorem sc_law_called : FnScope ["way", "table", "order", "number"] ["way", "table", "order", "number"] (defScope s_law_called) := ⟨rfl, rfl, rfl, by decide +kernel, rfl, by decide +kernel, by decide +kernel⟩
theorem sc_law_refused : FnScope ["way", "table", "order", "number", "index", "given", "found", "told", "kinds", "e"] ["way", "table", "order", "number", "index"] (defScope s_law_refused) := ⟨rfl, rfl, rfl, by decide +kernel, rfl, by decide +kernel, by decide +kernel⟩
theorem sc_law_no_row : FnScope ["way", "table", "order", "number", "found", "told", "kinds", "e"] ["way", "table", "order", "number"] (defScope s_law_no_row) := ⟨rfl, rfl, rfl, by decide +kernel, rfl, by decide +kernel, by decide +kernel⟩
theorem sc_law_runs : FnScope ["order", "row", "near", "k"] ["order", "row"] (defScope s_law_runs) := ⟨rfl, rfl, rfl, by decide +kernel, rfl, by decide +kernel, by decide +kernel⟩
theorem sc_law_row_is : FnScope ["table", "order", "row", "number", "due", "places", "given", "found", "name"] ["table", "order", "row", "number"] (defScope s_law_row_is) := ⟨rfl, rfl, rfl, by decide +kernel, rfl, by decide +kernel, by decide +kernel⟩
theorem sc_law_numbers_are : FnScope ["found", "due", "value"] ["found", "due"] (defScope s_law_numbers_are) := ⟨rfl, rfl, rfl, by decide +kernel, rfl, by decide +kernel, by decide +kernel⟩
theorem sc_law_gaps_are : FnScope ["table", "order", "rows", "found", "due", "k", "i"] ["table", "order", "rows"] (defScope s_law_gaps_are) := ⟨rfl, rfl, rfl, by decide +kernel, rfl, by decide +kernel, by decide +kernel⟩
theorem sc_law_order_is : FnScope ["table", "rows", "order", "i", "given", "wrong", "found", "told", "number"] ["table", "rows", "order"] (defScope s_law_order_is) := ⟨rfl, rfl, rfl, by decide +kernel, rfl, by decide +kernel, by decide +kernel⟩
theorem sc_law_list_is : FnScope ["table", "columns", "rows", "order", "index", "way", "number"] ["table", "columns", "rows", "order"] (defScope s_law_list_is) := ⟨rfl, rfl, rfl, by decide +kernel, rfl, by decide +kernel, by decide +kernel⟩
theorem sc_law : FnScope ["script", "pool", "lows", "other", "columns", "k", "hidden", "rows", "base", "order", "stranger", "wrong", "table", "i", "row", "name"] ["script"] (defScope s_law) := ⟨rfl, rfl, rfl, by decide +kernel, rfl, by decide +kernel, by decide +kernel⟩
theorem hu10 {A : Around} {k : Nat} (hr : Room k A) : A.units + 10 < cLine := by have := hr.un; omega
/-- text * int -/
theorem op_mulS {X : Cx} : OpR X (binaryOp .Mult) (fun x y H Q => ∃ (z : Str) (n : Int), x = .str z ∧ y = .int n ∧ MulOk z n ∧ Q (.str (Txt.mul z n)) H) := by
  intro pins s σ H x y v u Q I rx ry h
  obtain ⟨z, n, rfl, rfl, ok, q⟩ := h
  obtain ⟨t, rfl⟩ := rx
  obtain ⟨t', rfl⟩ := ry
  exact PySem.SB.mul ok fun t' k => ⟨.str (Txt.mul z n), H, I.tok _, ⟨_, rfl⟩, q⟩
def rLen2 (K : PySem.W.Frag) : List V → Hp → VK → Prop := fun xs H Q => ∃ p ys, xs = [.ref p] ∧ (SqL K H p ys ∨ SqT K H p ys) ∧ Q (.int ys.length) H
def rListOf (K : PySem.W.Frag) : List V → Hp → VK → Prop := fun xs H Q => ∃ p ys, xs = [.ref p] ∧ (SqL K H p ys ∨ SqT K H p ys) ∧ ∀ l, H l = none → Q (.ref l) (upd H l (.lst ys))
def rTupOf (K : PySem.W.Frag) : List V → Hp → VK → Prop := fun xs H Q => ∃ p ys, xs = [.ref p] ∧ ((SqL K H p ys ∧ ∀ l, H l = none → Q (.ref l) (upd H l (.tup ys))) ∨ (SqT K H p ys ∧ Q (.ref p) H))
/-! ### texts in lists -/
abbrev sv (ss : List Str) : List V := ss.map V.str
theorem len_sv (ss : List Str) : (sv ss).length = ss.length := List.length_map ..
theorem flat_sv (ss : List Str) : (sv ss).all flatV = true := by
  rw [List.all_eq_true]; intro x hx; obtain ⟨s, _, rfl⟩ := List.mem_map.mp hx; rfl
theorem eqV_str (a b : Str) : eqV (.str a) (.str b) = decide (a = b) := by
  first | rfl | (simp only [eqV]; by_cases h : a = b <;> simp [h])
theorem inV_str (x : Str) (ss : List Str) : inV (.str x) (sv ss) = decide (x ∈ ss) := by
  unfold inV
  rw [Bool.eq_iff_iff, List.any_eq_true, decide_eq_true_iff]
  constructor
  · rintro ⟨y, hy, e⟩
    obtain ⟨s, hs, rfl⟩ := List.mem_map.mp hy
    rw [eqV_str, decide_eq_true_iff] at e
    rw [← e]; exact hs
  · intro h
    exact ⟨.str x, List.mem_map.mpr ⟨x, h, rfl⟩, by rw [eqV_str]; simp⟩
theorem sv_get {ss : List Str} {i : Nat} {v : V} (h : (sv ss)[i]? = some v) : ∃ s, ss[i]? = some s ∧ v = .str s := by
  rw [List.getElem?_map] at h
  cases e : ss[i]? with
  | none => rw [e] at h; cases h
  | some t => rw [e] at h; exact ⟨t, rfl, (Option.some.inj h).symm⟩
theorem cut_take {xs : List V} {k : Nat} (h : k ≤ xs.length) : cutV xs none (some (k : Int)) = xs.take k := by
  unfold cutV
  rw [HT.sIx_none, HT.sIx_nat, Nat.min_eq_left h]
  simp
theorem cut_drop {xs : List V} {k : Nat} (h : k ≤ xs.length) : cutV xs (some (k : Int)) none = xs.drop k := by
  unfold cutV
  rw [HT.sIx_none, HT.sIx_nat, Nat.min_eq_left h]
  rw [List.take_of_length_le (by rw [List.length_drop]; exact Nat.le_refl _)]
theorem sv_take (ss : List Str) (k : Nat) : (sv ss).take k = sv (ss.take k) := List.map_take.symm
theorem sv_drop (ss : List Str) (k : Nat) : (sv ss).drop k = sv (ss.drop k) := List.map_drop.symm
/-! ### names -/
def Letters (l : List Nat) : Prop := ∀ c ∈ l, 97 ≤ c ∧ c ≤ 122
structure Good (z : Str) : Prop where
  pos : 1 ≤ z.length
  le : z.length ≤ 8
  let_ : Letters z.cps.toList
/-! ### the first stray of a list -/
def badAt (cs ns : List Str) (i : Nat) : Bool := match ns[i]? with | some x => !decide (x ∈ cs) || decide (x ∈ ns.take i) | none => false
def stray (cs ns : List Str) : Option Nat := (List.range ns.length).find? (badAt cs ns)
def fault (cs ns : List Str) : Option Nat := match stray cs ns with | some i => some i | none => if ns.length < cs.length then some ns.length else none
def optV : Option Nat → V
  | none => .non
  | some i => .int (i : Nat)
theorem stray_some {cs ns : List Str} {i : Nat} (hi : i < ns.length) (h1 : badAt cs ns i = true) (h2 : ∀ j, j < i → badAt cs ns j = false) : stray cs ns = some i := by
  unfold stray
  rw [List.find?_range_eq_some]
  exact ⟨h1, List.mem_range.mpr hi, fun j hj => by rw [h2 j hj]; rfl⟩
theorem stray_none {cs ns : List Str} (h2 : ∀ j, j < ns.length → badAt cs ns j = false) : stray cs ns = none := by
  unfold stray
  rw [List.find?_eq_none]
  intro j hj
  rw [h2 j (List.mem_range.mp hj)]
  exact Bool.false_ne_true
theorem stray_none_iff {cs ns : List Str} : stray cs ns = none ↔ (∀ x ∈ ns, x ∈ cs) ∧ ns.Nodup := by
  unfold stray
  rw [List.find?_eq_none]
  constructor
  · intro h
    have hb : ∀ i (hi : i < ns.length), ns[i] ∈ cs ∧ ns[i] ∉ ns.take i := fun i hi => by
      have := h i (List.mem_range.mpr hi)
      unfold badAt at this
      rw [List.getElem?_eq_getElem hi] at this
      simpa using this
    refine ⟨fun x hx => ?_, ?_⟩
    · obtain ⟨i, hi, rfl⟩ := List.getElem_of_mem hx
      exact (hb i hi).1
    · rw [List.nodup_iff_pairwise_ne, List.pairwise_iff_getElem]
      intro i j hi hj hij e
      refine (hb j hj).2 ?_
      rw [← e]
      exact List.mem_take_iff_getElem.mpr ⟨i, by omega, rfl⟩
  · rintro ⟨h1, h2⟩ i hi
    have hi := List.mem_range.mp hi
    unfold badAt
    rw [List.getElem?_eq_getElem hi]
    have a := h1 _ (List.getElem_mem hi)
    have b : ns[i] ∉ ns.take i := fun hm => by
      obtain ⟨j, hj, e⟩ := List.mem_take_iff_getElem.mp hm
      rw [List.nodup_iff_pairwise_ne, List.pairwise_iff_getElem] at h2
      exact h2 j i (by omega) hi (by omega) e
    simp [a, b]
theorem fault_none {cs ns : List Str} (h1 : ∀ x ∈ ns, x ∈ cs) (h2 : ns.Nodup) (h3 : cs.length ≤ ns.length) : fault cs ns = none := by
  unfold fault
  rw [stray_none_iff.mpr ⟨h1, h2⟩]
  show (if ns.length < cs.length then _ else _) = _
  rw [if_neg (by omega)]
/-- the law's list of what is wrong -/
def wrongs (cs ns : List Str) : List Nat := (List.range ns.length).filter (badAt cs ns) ++ if ns.length < cs.length then [ns.length] else []
theorem wrongs_head (cs ns : List Str) : (wrongs cs ns).head? = fault cs ns := by
  unfold wrongs fault stray
  rw [List.head?_append, List.head?_filter]
  cases (List.range ns.length).find? (badAt cs ns) with
  | some i => rfl
  | none =>
    show Option.or none _ = (if _ then _ else _)
    split <;> rfl
/-! ### runs -/
def runAt (fl : List Bool) (i : Nat) : Bool := fl.getD i false && !(decide (0 < i) && fl.getD (i - 1) false)
def runs (fl : List Bool) : Nat := ((List.range fl.length).filter (runAt fl)).length
theorem runs_le (fl : List Bool) : runs fl ≤ fl.length := by
  unfold runs
  have := List.length_filter_le (runAt fl) (List.range fl.length)
  rw [List.length_range] at this
  exact this
/-! ### the picture -/
theorem mul_len (n : Int) : (Txt.mul (" " : Str) n).length = n.toNat := by
  unfold Txt.mul
  have h1 : ((" " : Str).length == 0) = false := by decide
  split
  · rename_i h
    show 0 = n.toNat
    omega
  · rename_i h
    split
    · rename_i h'
      rw [h1, Bool.or_false, beq_iff_eq] at h'
      subst h'
      rfl
    · have e : ∀ (m : Nat) (acc : Array Nat), ((List.replicate m (" " : Str).cps).foldl (· ++ ·) acc).size = acc.size + m := by
        intro m
        induction m with
        | zero => intro acc; rfl
        | succ m ih =>
          intro acc
          rw [List.replicate_succ, List.foldl_cons, ih, Array.size_append]
          have : (" " : Str).cps.size = 1 := by decide
          rw [this]; omega
      show ((List.replicate n.toNat (" " : Str).cps).foldl (· ++ ·) #[]).size = n.toNat
      rw [e]
      show 0 + n.toNat = _
      omega
theorem mul_cps (n : Int) : (Txt.mul (" " : Str) n).cps = Array.replicate n.toNat 32 := by
  unfold Txt.mul
  have h1 : ((" " : Str).length == 0) = false := by decide
  split
  · rename_i h
    have : n.toNat = 0 := by omega
    rw [this]
    rfl
  · rename_i h
    split
    · rename_i h'
      rw [h1, Bool.or_false, beq_iff_eq] at h'
      subst h'
      decide
    · have e : ∀ (m : Nat) (acc : Array Nat), ((List.replicate m (" " : Str).cps).foldl (· ++ ·) acc) = acc ++ Array.replicate m 32 := by
        intro m
        induction m with
        | zero => intro acc; simp
        | succ m ih =>
          intro acc
          rw [List.replicate_succ, List.foldl_cons, ih]
          have : (" " : Str).cps = #[32] := by decide
          rw [this, Array.append_assoc]
          congr 1
          apply Array.toList_inj.mp
          simp [List.replicate_succ]
      show ((List.replicate n.toNat (" " : Str).cps).foldl (· ++ ·) #[]) = _
      rw [e]
      simp
theorem str_ext {a b : Str} (h : a.cps = b.cps) : a = b := by cases a; cases b; exact congrArg Str.mk h
theorem append_cps (a b : Str) : (a ++ b).cps = a.cps ++ b.cps := rfl
theorem ljust_eq (x : Str) (W : Int) : Txt.ljust x W = x ++ Txt.mul " " (W - x.length) := by
  apply str_ext
  rw [append_cps, mul_cps]
  unfold Txt.ljust
  split
  · rename_i h
    have : (W - (x.length : Int)).toNat = 0 := by omega
    rw [this]; simp
  · rename_i h
    have : W.toNat - x.length = (W - (x.length : Int)).toNat := by omega
    rw [this]
    show Array.replicate 0 32 ++ x.cps ++ Array.replicate _ 32 = _
    simp
theorem ljust_len (x : Str) (W : Int) : (Txt.ljust x W).length = x.length + (W - x.length).toNat := by
  rw [ljust_eq, Str.length_append, mul_len]
def fill (ws : List Str) (W : Int) : Str := Txt.join " " (ws.map fun x => Txt.ljust x W)
def marks (order row : List Str) : List Str := order.map fun x => if x ∈ row then ("x" : Str) else "."
def flags (order row : List Str) : List Bool := order.map fun x => decide (x ∈ row)
def num4 (n : Nat) : Str := Txt.rjust (Str.ofString (toString (n : Int))) 4
def line (order : List Str) (W : Int) (row : List Str) : Str := fill (marks order row) W ++ num4 (runs (flags order row))
def pic (order : List Str) (rows : List (List Str)) (W : Int) : Str := Txt.join "\n" (fill order W :: rows.map (line order W))
theorem num_small : ∀ n : Fin 13, (Str.ofString (toString ((n.val : Nat) : Int))).length ≤ 4 := by decide +kernel
theorem num4_len {n : Nat} (h : n ≤ 12) : (num4 n).length = 4 := by
  have hl : (Str.ofString (toString (n : Int))).length ≤ 4 := num_small ⟨n, by omega⟩
  unfold num4 Txt.rjust
  generalize Str.ofString (toString (n : Int)) = x at hl ⊢
  split
  · rename_i h4; omega
  · show (Array.replicate _ 32 ++ x.cps ++ Array.replicate 0 32).size = 4
    simp
    show (4 : Int).toNat - x.length + x.length = 4
    omega
theorem cut4 {s : Str} (h : s.length ≤ 4) : cutS (("    " : Str) ++ s) (some (-4)) none = Txt.rjust s 4 := by
  apply str_ext
  unfold cutS Txt.rjust
  have hl : (("    " : Str) ++ s).length = 4 + s.length := by rw [Str.length_append]; rfl
  have h1 : HT.sIx (("    " : Str) ++ s).length 0 (some (-4)) = s.length := by
    rw [hl]
    show (if (-4 : Int) < 0 then ((-4 : Int) + ((4 + s.length : Nat) : Int)).toNat else min (-4 : Int).toNat (4 + s.length)) = s.length
    rw [if_pos (by decide)]; omega
  rw [h1, HT.sIx_none, hl]
  have e4 : (("    " : Str)).cps.toList = List.replicate 4 32 := by decide
  apply Array.toList_inj.mp
  rw [append_cps, Array.toList_append, e4]
  have h5 : 4 + s.length - s.length = 4 := by omega
  rw [h5]
  have hs : s.cps.toList.length = s.length := by simp [Str.length]
  have e6 : (List.replicate 4 32 ++ s.cps.toList).drop s.length = List.replicate (4 - s.length) 32 ++ s.cps.toList := by
    rw [List.drop_append_of_le_length (by simp; exact h), List.drop_replicate]
  rw [e6, List.take_of_length_le (by rw [List.length_append, List.length_replicate, hs]; omega)]
  split
  · rename_i h4
    have : 4 - s.length = 0 := by omega
    rw [this]; rfl
  · show _ = (Array.replicate ((4 : Int).toNat - s.length) 32 ++ s.cps ++ Array.replicate 0 32).toList
    simp
/-! ### lengths -/
theorem sum_le {ys : List Nat} {B : Nat} (h : ∀ y ∈ ys, y ≤ B) : ys.sum ≤ ys.length * B := by
  induction ys with
  | nil => simp
  | cons y r ih =>
    have h1 := h y List.mem_cons_self
    have h2 := ih fun x hx => h x (List.mem_cons_of_mem _ hx)
    rw [List.sum_cons, List.length_cons, Nat.succ_mul]
    omega
theorem join_len (a : Str) : ∀ ys : List Str, (Txt.join a ys).length ≤ (ys.map (·.length)).sum + ys.length * a.length
  | [] => by
    show (Txt.join a []).length ≤ 0 + 0 * a.length
    have : (Txt.join a []).length = 0 := rfl
    omega
  | [x] => by
    have : Txt.join a [x] = x := by rw [TL.join_eq]; rfl
    rw [this]
    simp
  | x :: y :: r => by
    have e : Txt.join a (x :: y :: r) = x ++ a ++ Txt.join a (y :: r) := by rw [TL.join_eq, TL.join_eq]; rfl
    have ih := join_len a (y :: r)
    rw [e, Str.length_append, Str.length_append, List.map_cons, List.sum_cons, List.length_cons, Nat.succ_mul]
    omega
theorem fits_join {a : Str} {ys : List Str} {B n : Nat} (h : ∀ y ∈ ys, y.length ≤ B) (hn : ys.length ≤ n) (hs : n * (B + a.length) ≤ 16777216) : (ys.map (·.length)).sum + ys.length * a.length ≤ 16777216 ∧ (Txt.join a ys).length ≤ n * (B + a.length) := by
  have h1 : (ys.map (·.length)).sum ≤ (ys.map (·.length)).length * B := sum_le fun y hy => by
    obtain ⟨z, hz, rfl⟩ := List.mem_map.mp hy
    exact h z hz
  rw [List.length_map] at h1
  have h2 := join_len a ys
  have h3 : ys.length * (B + a.length) ≤ n * (B + a.length) := Nat.mul_le_mul_right _ hn
  rw [Nat.mul_add] at h3
  omega
end My
set_option maxRecDepth 100000
set_option maxHeartbeats 4000000
namespace My
open PySem L2
/-- where the defs and classes stand -/
structure Ad where
  C_Table : Addr
  C_RowsError : Addr
  C_Unknown : Addr
  C_Impossible : Addr
  C_BadOrder : Addr
  C_UnknownRow : Addr
  a_BadOrder_init : Addr
  d_BadOrder_init : FuncData
  a_UnknownRow_init : Addr
  d_UnknownRow_init : FuncData
  a_is_name : Addr
  d_is_name : FuncData
  a_first_bad_name : Addr
  d_first_bad_name : FuncData
  a_first_stray : Addr
  d_first_stray : FuncData
  a_order_fault : Addr
  d_order_fault : FuncData
  a_count_runs : Addr
  d_count_runs : FuncData
  a_runs_of : Addr
  d_runs_of : FuncData
  a_check_order : Addr
  d_check_order : FuncData
  a_run_count : Addr
  d_run_count : FuncData
  a_broken : Addr
  d_broken : FuncData
  a_is_layout : Addr
  d_is_layout : FuncData
  a_extent : Addr
  d_extent : FuncData
  a_gap_rows : Addr
  d_gap_rows : FuncData
  a_common_rows : Addr
  d_common_rows : FuncData
  a_check_columns : Addr
  d_check_columns : FuncData
  a_check_rows : Addr
  d_check_rows : FuncData
  a_Table_in_order : Addr
  d_Table_in_order : FuncData
  a_Table_init : Addr
  d_Table_init : FuncData
  a_Table_getitem : Addr
  d_Table_getitem : FuncData
  a_Table_len : Addr
  d_Table_len : FuncData
  a_Table_iter : Addr
  d_Table_iter : FuncData
  a_law_cell : Addr
  d_law_cell : FuncData
  a_law_pool : Addr
  d_law_pool : FuncData
  a_law_word : Addr
  d_law_word : FuncData
  a_law_new : Addr
  d_law_new : FuncData
  a_law_sequence : Addr
  d_law_sequence : FuncData
  a_law_row : Addr
  d_law_row : FuncData
  a_law_spoiled : Addr
  d_law_spoiled : FuncData
  a_law_misfit : Addr
  d_law_misfit : FuncData
  a_law_is_count : Addr
  d_law_is_count : FuncData
  a_law_called : Addr
  d_law_called : FuncData
  a_law_refused : Addr
  d_law_refused : FuncData
  a_law_no_row : Addr
  d_law_no_row : FuncData
  a_law_runs : Addr
  d_law_runs : FuncData
  a_law_row_is : Addr
  d_law_row_is : FuncData
  a_law_numbers_are : Addr
  d_law_numbers_are : FuncData
  a_law_gaps_are : Addr
  d_law_gaps_are : FuncData
  a_law_order_is : Addr
  d_law_order_is : FuncData
  a_law_list_is : Addr
  d_law_list_is : FuncData
  a_law : Addr
  d_law : FuncData
  e_Table_init : Addr
/-- what the top has written -/
structure Txt (P : Program) (K : PySem.W.Frag) (mg : Str → Option Value) (A : Ad) : Prop where
  mg_Table : mg "Table" = some (.ref A.C_Table)
  cl_Table : Cls K A.C_Table
  sf_Table : PySem.W.selfFirst K A.C_Table = true
  mk_Table : Mk K A.C_Table A.a_Table_init
  c1_Table : PySem.W.findIn K (.ref A.C_Table) "__class__" = some (some (.builtin "object.__class__"))
  c3_Table : PySem.W.mroIn K A.C_Table (.type "object") = some true
  n_Table_columns : NoAttr K A.C_Table "columns"
  n_Table_rows : NoAttr K A.C_Table "rows"
  c2 : PySem.W.specialIn K (.builtin "object.__class__") "__get__" = some (some (.builtin "getset_descriptor.__get__"))
  c4 : PySem.W.takesIn K (.builtin "object.__class__") = some true
  mg_RowsError : mg "RowsError" = some (.ref A.C_RowsError)
  tp_RowsError : PySem.W.typeIn K (.ref A.C_RowsError) = some (.type "type")
  ic_RowsError : PySem.W.isClsIn K A.C_RowsError = true
  mg_Unknown : mg "Unknown" = some (.ref A.C_Unknown)
  tp_Unknown : PySem.W.typeIn K (.ref A.C_Unknown) = some (.type "type")
  ic_Unknown : PySem.W.isClsIn K A.C_Unknown = true
  mg_Impossible : mg "Impossible" = some (.ref A.C_Impossible)
  tp_Impossible : PySem.W.typeIn K (.ref A.C_Impossible) = some (.type "type")
  ic_Impossible : PySem.W.isClsIn K A.C_Impossible = true
  mg_BadOrder : mg "BadOrder" = some (.ref A.C_BadOrder)
  tp_BadOrder : PySem.W.typeIn K (.ref A.C_BadOrder) = some (.type "type")
  ic_BadOrder : PySem.W.isClsIn K A.C_BadOrder = true
  mg_UnknownRow : mg "UnknownRow" = some (.ref A.C_UnknownRow)
  tp_UnknownRow : PySem.W.typeIn K (.ref A.C_UnknownRow) = some (.type "type")
  ic_UnknownRow : PySem.W.isClsIn K A.C_UnknownRow = true
  SC_BadOrder : SupCls P K mg A.C_BadOrder
  SF_BadOrder : SupFn P K s_BadOrder_init "BadOrder.__init__" A.C_BadOrder A.a_BadOrder_init A.d_BadOrder_init
  ii_BadOrder : PySem.W.findIn K (.ref A.C_BadOrder) "__init__" = some (some (.ref A.a_BadOrder_init))
  ti_BadOrder : PySem.W.typeIn K (.ref A.a_BadOrder_init) = some (.type "function")
  b_BadOrder_init : Binds K A.d_BadOrder_init ["self", "index"] []
  xn_BadOrder_index : PySem.W.findIn K (.ref A.C_BadOrder) "index" = some none
  xf_BadOrder : XfC K A.C_BadOrder
  ec_BadOrder : ExcC K A.C_BadOrder
  k_BadOrder : PySem.W.keepIn K (.ref A.C_BadOrder) = true
  bp_BadOrder : PySem.W.subIn K (.ref A.C_BadOrder) (.type "BaseException") = some true
  sv_BadOrder : PySem.W.subIn K (.ref A.C_BadOrder) (.type "ValueError") = some true
  ss_BadOrder : PySem.W.subIn K (.ref A.C_BadOrder) (.ref A.C_BadOrder) = some true
  su_BadOrder_RowsError : PySem.W.subIn K (.ref A.C_BadOrder) (.ref A.C_RowsError) = some true
  su_BadOrder_Unknown : PySem.W.subIn K (.ref A.C_BadOrder) (.ref A.C_Unknown) = some false
  su_BadOrder_Impossible : PySem.W.subIn K (.ref A.C_BadOrder) (.ref A.C_Impossible) = some false
  e1_BadOrder : PySem.W.findIn K (.ref A.C_BadOrder) "__getattribute__" = some (some (.builtin "BaseException.__getattribute__"))
  e2_BadOrder : PySem.W.findIn K (.ref A.C_BadOrder) "__getattr__" = some none
  e3_BadOrder : PySem.W.hasDictIn K A.C_BadOrder = true
  e4_BadOrder : PySem.W.findIn K (.ref A.C_BadOrder) "__class__" = some (some (.builtin "object.__class__"))
  e5_BadOrder : PySem.W.mroIn K A.C_BadOrder (.type "object") = some true
  SC_UnknownRow : SupCls P K mg A.C_UnknownRow
  SF_UnknownRow : SupFn P K s_UnknownRow_init "UnknownRow.__init__" A.C_UnknownRow A.a_UnknownRow_init A.d_UnknownRow_init
  ii_UnknownRow : PySem.W.findIn K (.ref A.C_UnknownRow) "__init__" = some (some (.ref A.a_UnknownRow_init))
  ti_UnknownRow : PySem.W.typeIn K (.ref A.a_UnknownRow_init) = some (.type "function")
  b_UnknownRow_init : Binds K A.d_UnknownRow_init ["self", "number"] []
  xn_UnknownRow_number : PySem.W.findIn K (.ref A.C_UnknownRow) "number" = some none
  xf_UnknownRow : XfC K A.C_UnknownRow
  ec_UnknownRow : ExcC K A.C_UnknownRow
  k_UnknownRow : PySem.W.keepIn K (.ref A.C_UnknownRow) = true
  bp_UnknownRow : PySem.W.subIn K (.ref A.C_UnknownRow) (.type "BaseException") = some true
  sv_UnknownRow : PySem.W.subIn K (.ref A.C_UnknownRow) (.type "ValueError") = some true
  ss_UnknownRow : PySem.W.subIn K (.ref A.C_UnknownRow) (.ref A.C_UnknownRow) = some true
  su_UnknownRow_RowsError : PySem.W.subIn K (.ref A.C_UnknownRow) (.ref A.C_RowsError) = some true
  su_UnknownRow_Unknown : PySem.W.subIn K (.ref A.C_UnknownRow) (.ref A.C_Unknown) = some true
  su_UnknownRow_Impossible : PySem.W.subIn K (.ref A.C_UnknownRow) (.ref A.C_Impossible) = some false
  e1_UnknownRow : PySem.W.findIn K (.ref A.C_UnknownRow) "__getattribute__" = some (some (.builtin "BaseException.__getattribute__"))
  e2_UnknownRow : PySem.W.findIn K (.ref A.C_UnknownRow) "__getattr__" = some none
  e3_UnknownRow : PySem.W.hasDictIn K A.C_UnknownRow = true
  e4_UnknownRow : PySem.W.findIn K (.ref A.C_UnknownRow) "__class__" = some (some (.builtin "object.__class__"))
  e5_UnknownRow : PySem.W.mroIn K A.C_UnknownRow (.type "object") = some true
  mg_LONGEST_NAME : ∃ t : Tok, mg "LONGEST_NAME" = some (.int 8 t)
  cr_Table : ClX.CRead K A.C_Table (.type "type")
  cv_Table_MOST_COLUMNS : ∃ u, ClX.CVal K A.C_Table (.type "type") "MOST_COLUMNS" (.int 12) u
  cv_Table_MOST_ROWS : ∃ u, ClX.CVal K A.C_Table (.type "type") "MOST_ROWS" (.int 48) u
  n_abs : mg "abs" = none
  n_int : mg "int" = none
  n_isinstance : mg "isinstance" = none
  n_range : mg "range" = none
  n_len : mg "len" = none
  n_str : mg "str" = none
  n_tuple : mg "tuple" = none
  n_list : mg "list" = none
  n_ValueError : mg "ValueError" = none
  n_all : mg "all" = none
  n_max : mg "max" = none
  n_min : mg "min" = none
  n_enumerate : mg "enumerate" = none
  n_iter : mg "iter" = none
  n_bool : mg "bool" = none
  n_sorted : mg "sorted" = none
  F_is_name : Fun K "is_name" "is_name" s_is_name A.a_is_name A.d_is_name
  b_is_name : Binds K A.d_is_name ["text"] []
  mg_is_name : mg "is_name" = some (.ref A.a_is_name)
  F_first_bad_name : Fun K "first_bad_name" "first_bad_name" s_first_bad_name A.a_first_bad_name A.d_first_bad_name
  b_first_bad_name : Binds K A.d_first_bad_name ["names"] []
  mg_first_bad_name : mg "first_bad_name" = some (.ref A.a_first_bad_name)
  F_first_stray : Fun K "first_stray" "first_stray" s_first_stray A.a_first_stray A.d_first_stray
  b_first_stray : Binds K A.d_first_stray ["columns", "names"] []
  mg_first_stray : mg "first_stray" = some (.ref A.a_first_stray)
  F_order_fault : Fun K "order_fault" "order_fault" s_order_fault A.a_order_fault A.d_order_fault
  b_order_fault : Binds K A.d_order_fault ["columns", "order"] []
  mg_order_fault : mg "order_fault" = some (.ref A.a_order_fault)
  F_count_runs : Fun K "count_runs" "count_runs" s_count_runs A.a_count_runs A.d_count_runs
  b_count_runs : Binds K A.d_count_runs ["flags"] []
  mg_count_runs : mg "count_runs" = some (.ref A.a_count_runs)
  F_runs_of : Fun K "runs_of" "runs_of" s_runs_of A.a_runs_of A.d_runs_of
  b_runs_of : Binds K A.d_runs_of ["row", "order"] []
  mg_runs_of : mg "runs_of" = some (.ref A.a_runs_of)
  F_check_order : Fun K "check_order" "check_order" s_check_order A.a_check_order A.d_check_order
  b_check_order : Binds K A.d_check_order ["table", "order"] []
  mg_check_order : mg "check_order" = some (.ref A.a_check_order)
  F_run_count : Fun K "run_count" "run_count" s_run_count A.a_run_count A.d_run_count
  b_run_count : Binds K A.d_run_count ["table", "order", "number"] []
  mg_run_count : mg "run_count" = some (.ref A.a_run_count)
  F_broken : Fun K "broken" "broken" s_broken A.a_broken A.d_broken
  b_broken : Binds K A.d_broken ["table", "order"] []
  mg_broken : mg "broken" = some (.ref A.a_broken)
  F_is_layout : Fun K "is_layout" "is_layout" s_is_layout A.a_is_layout A.d_is_layout
  b_is_layout : Binds K A.d_is_layout ["table", "order"] []
  mg_is_layout : mg "is_layout" = some (.ref A.a_is_layout)
  F_extent : Fun K "extent" "extent" s_extent A.a_extent A.d_extent
  b_extent : Binds K A.d_extent ["table", "order", "number"] []
  mg_extent : mg "extent" = some (.ref A.a_extent)
  F_gap_rows : Fun K "gap_rows" "gap_rows" s_gap_rows A.a_gap_rows A.d_gap_rows
  b_gap_rows : Binds K A.d_gap_rows ["table", "order"] []
  mg_gap_rows : mg "gap_rows" = some (.ref A.a_gap_rows)
  F_common_rows : Fun K "_common_rows" "_common_rows" s_common_rows A.a_common_rows A.d_common_rows
  b_common_rows : Binds K A.d_common_rows ["table", "one", "other"] []
  mg_common_rows : mg "_common_rows" = some (.ref A.a_common_rows)
  F_check_columns : Fun K "check_columns" "check_columns" s_check_columns A.a_check_columns A.d_check_columns
  b_check_columns : Binds K A.d_check_columns ["columns"] []
  mg_check_columns : mg "check_columns" = some (.ref A.a_check_columns)
  F_check_rows : Fun K "_check_rows" "_check_rows" s_check_rows A.a_check_rows A.d_check_rows
  b_check_rows : Binds K A.d_check_rows ["columns", "rows"] []
  mg_check_rows : mg "_check_rows" = some (.ref A.a_check_rows)
  F_Table_in_order : Fun K "_in_order" "Table._in_order" s_Table_in_order A.a_Table_in_order A.d_Table_in_order
  b_Table_in_order : Binds K A.d_Table_in_order ["self", "names"] []
  m_Table_in_order : Meth K A.C_Table "_in_order" A.a_Table_in_order
  F_Table_init : FunD K "__init__" "Table.__init__" (defArgs s_Table_init) (defBody s_Table_init) (defScope s_Table_init) [.ref A.e_Table_init] [] A.a_Table_init A.d_Table_init
  m_Table_init : Meth K A.C_Table "__init__" A.a_Table_init
  F_Table_getitem : Fun K "__getitem__" "Table.__getitem__" s_Table_getitem A.a_Table_getitem A.d_Table_getitem
  b_Table_getitem : Binds K A.d_Table_getitem ["self", "at"] []
  m_Table_getitem : Meth K A.C_Table "__getitem__" A.a_Table_getitem
  F_Table_len : Fun K "__len__" "Table.__len__" s_Table_len A.a_Table_len A.d_Table_len
  b_Table_len : Binds K A.d_Table_len ["self"] []
  m_Table_len : Meth K A.C_Table "__len__" A.a_Table_len
  F_Table_iter : Fun K "__iter__" "Table.__iter__" s_Table_iter A.a_Table_iter A.d_Table_iter
  b_Table_iter : Binds K A.d_Table_iter ["self"] []
  m_Table_iter : Meth K A.C_Table "__iter__" A.a_Table_iter
  F_law_cell : Fun K "_law_cell" "_law_cell" s_law_cell A.a_law_cell A.d_law_cell
  b_law_cell : Binds K A.d_law_cell ["script", "k"] []
  mg_law_cell : mg "_law_cell" = some (.ref A.a_law_cell)
  F_law_pool : Fun K "_law_pool" "_law_pool" s_law_pool A.a_law_pool A.d_law_pool
  b_law_pool : Binds K A.d_law_pool ["script", "k", "count"] []
  mg_law_pool : mg "_law_pool" = some (.ref A.a_law_pool)
  F_law_word : Fun K "_law_word" "_law_word" s_law_word A.a_law_word A.d_law_word
  b_law_word : Binds K A.d_law_word ["pool", "at"] []
  mg_law_word : mg "_law_word" = some (.ref A.a_law_word)
  F_law_new : Fun K "_law_new" "_law_new" s_law_new A.a_law_new A.d_law_new
  b_law_new : Binds K A.d_law_new ["names", "word"] []
  mg_law_new : mg "_law_new" = some (.ref A.a_law_new)
  F_law_sequence : Fun K "_law_sequence" "_law_sequence" s_law_sequence A.a_law_sequence A.d_law_sequence
  b_law_sequence : Binds K A.d_law_sequence ["names", "draw"] []
  mg_law_sequence : mg "_law_sequence" = some (.ref A.a_law_sequence)
  F_law_row : Fun K "_law_row" "_law_row" s_law_row A.a_law_row A.d_law_row
  b_law_row : Binds K A.d_law_row ["columns", "hidden", "pool", "at"] []
  mg_law_row : mg "_law_row" = some (.ref A.a_law_row)
  F_law_spoiled : Fun K "_law_spoiled" "_law_spoiled" s_law_spoiled A.a_law_spoiled A.d_law_spoiled
  b_law_spoiled : Binds K A.d_law_spoiled ["order", "stranger", "pool"] []
  mg_law_spoiled : mg "_law_spoiled" = some (.ref A.a_law_spoiled)
  F_law_misfit : Fun K "_law_misfit" "_law_misfit" s_law_misfit A.a_law_misfit A.d_law_misfit
  b_law_misfit : Binds K A.d_law_misfit ["columns", "order"] []
  mg_law_misfit : mg "_law_misfit" = some (.ref A.a_law_misfit)
  F_law_is_count : Fun K "_law_is_count" "_law_is_count" s_law_is_count A.a_law_is_count A.d_law_is_count
  b_law_is_count : Binds K A.d_law_is_count ["value", "due"] []
  mg_law_is_count : mg "_law_is_count" = some (.ref A.a_law_is_count)
  F_law_called : Fun K "_law_called" "_law_called" s_law_called A.a_law_called A.d_law_called
  b_law_called : Binds K A.d_law_called ["way", "table", "order", "number"] []
  mg_law_called : mg "_law_called" = some (.ref A.a_law_called)
  F_law_refused : Fun K "_law_refused" "_law_refused" s_law_refused A.a_law_refused A.d_law_refused
  b_law_refused : Binds K A.d_law_refused ["way", "table", "order", "number", "index"] []
  mg_law_refused : mg "_law_refused" = some (.ref A.a_law_refused)
  F_law_no_row : Fun K "_law_no_row" "_law_no_row" s_law_no_row A.a_law_no_row A.d_law_no_row
  b_law_no_row : Binds K A.d_law_no_row ["way", "table", "order", "number"] []
  mg_law_no_row : mg "_law_no_row" = some (.ref A.a_law_no_row)
  F_law_runs : Fun K "_law_runs" "_law_runs" s_law_runs A.a_law_runs A.d_law_runs
  b_law_runs : Binds K A.d_law_runs ["order", "row"] []
  mg_law_runs : mg "_law_runs" = some (.ref A.a_law_runs)
  F_law_row_is : Fun K "_law_row_is" "_law_row_is" s_law_row_is A.a_law_row_is A.d_law_row_is
  b_law_row_is : Binds K A.d_law_row_is ["table", "order", "row", "number"] []
  mg_law_row_is : mg "_law_row_is" = some (.ref A.a_law_row_is)
  F_law_numbers_are : Fun K "_law_numbers_are" "_law_numbers_are" s_law_numbers_are A.a_law_numbers_are A.d_law_numbers_are
  b_law_numbers_are : Binds K A.d_law_numbers_are ["found", "due"] []
  mg_law_numbers_are : mg "_law_numbers_are" = some (.ref A.a_law_numbers_are)
  F_law_gaps_are : Fun K "_law_gaps_are" "_law_gaps_are" s_law_gaps_are A.a_law_gaps_are A.d_law_gaps_are
  b_law_gaps_are : Binds K A.d_law_gaps_are ["table", "order", "rows"] []
  mg_law_gaps_are : mg "_law_gaps_are" = some (.ref A.a_law_gaps_are)
  F_law_order_is : Fun K "_law_order_is" "_law_order_is" s_law_order_is A.a_law_order_is A.d_law_order_is
  b_law_order_is : Binds K A.d_law_order_is ["table", "rows", "order"] []
  mg_law_order_is : mg "_law_order_is" = some (.ref A.a_law_order_is)
  F_law_list_is : Fun K "_law_list_is" "_law_list_is" s_law_list_is A.a_law_list_is A.d_law_list_is
  b_law_list_is : Binds K A.d_law_list_is ["table", "columns", "rows", "order"] []
  mg_law_list_is : mg "_law_list_is" = some (.ref A.a_law_list_is)
  F_law : Fun K "law" "law" s_law A.a_law A.d_law
  b_law : Binds K A.d_law ["script"] []
  mg_law : mg "law" = some (.ref A.a_law)
/-- // by any divisor but 0 below 2 ^ 9000 -/
def CDivX (_ j : Int) : Prop := j ≠ 0 ∧ j.natAbs < 2 ^ 9000
theorem op_fdivX {X : Cx} : OpR X (binaryOp .FloorDiv) (rI CDivX fun i j => .int (i.fdiv j)) := opI fun i j _ _ _ _ _ hc q =>
  PyProof.Rows.floordiv_int hc.1 q (.inl (PyProof.noPylong_of_log2 (PySem.Flt.log2_lt_of (by decide) hc.2)))
theorem itN {c A B : Prop} [Decidable c] (hc : ¬ c) (h : B) : if decide c = true then A else B := by
  rw [decide_eq_false hc]; exact iteF h
theorem itY {c A B : Prop} [Decidable c] (hc : c) (h : A) : if decide c = true then A else B := by
  rw [decide_eq_true hc]; exact iteT h
theorem ifT {b : Bool} {A B : Prop} (hb : b = true) (h : A) : if b = true then A else B := by rw [if_pos hb]; exact h
theorem ifF {b : Bool} {A B : Prop} (hb : b = false) (h : B) : if b = true then A else B := by rw [if_neg (by rw [hb]; decide)]; exact h
theorem same_new {H : Hp} {l : Addr} {o : HO} (h : H l = none) : Same H (upd H l o) := fun b u e => by rw [upd_ne (ne_of_none e h)]; exact e
theorem _root_.L2.Same.tup {K : PySem.W.Frag} {H H' : Hp} {a : Addr} {xs : List V} (e : Same H H') (h : SqT K H a xs) : SqT K H' a xs := by
  rcases h with (r | ⟨o, r⟩) | z
  · exact .inl (.inl (e _ _ r))
  · exact .inl (.inr ⟨o, e _ _ r⟩)
  · exact .inr z
/-! ### a comprehension's list -/
/-- the heap H1 has grown, at D stands fm i -/
def PvS (H1 : Hp) (D : Addr) (fm : Nat → List V) (i : Nat) (H : Hp) : Prop := Same H1 H ∧ H D = some (.lst (fm i))
theorem pv0 {H1 : Hp} {D : Addr} {fm : Nat → List V} (hD : H1 D = none) (h : fm 0 = []) : PvS H1 D fm 0 (upd H1 D (.lst [])) := ⟨same_new hD, by rw [h]; exact upd_same⟩
theorem PvS.more {H1 H H' : Hp} {D : Addr} {fm : Nat → List V} {i : Nat} (p : PvS H1 D fm i H) (s : Same H H') : PvS H1 D fm i H' := ⟨p.1.trans s, s _ _ p.2⟩
theorem PvS.push {H1 H : Hp} {D : Addr} {fm : Nat → List V} {i : Nat} {y : V} (p : PvS H1 D fm i H) (hD : H1 D = none) (h : fm (i + 1) = fm i ++ [y]) (hl : (fm i).length ≤ 1000000) :
    ∃ acc, H D = some (.lst acc) ∧ acc.length < sizeLine ∧ PvS H1 D fm (i + 1) (upd H D (.lst (acc ++ [y]))) := by
  refine ⟨fm i, p.2, Nat.lt_of_le_of_lt hl (by decide), fun b o e => ?_, ?_⟩
  · rw [upd_ne (ne_of_none e hD)]; exact p.1 _ _ e
  · rw [h]; exact upd_same
theorem PvS.skip {H1 H : Hp} {D : Addr} {fm : Nat → List V} {i : Nat} (p : PvS H1 D fm i H) (h : fm (i + 1) = fm i) : PvS H1 D fm (i + 1) H := ⟨p.1, by rw [h]; exact p.2⟩
theorem small_int {n : Nat} (h : n ≤ 1000000) : n < sizeLine := Nat.lt_of_le_of_lt h (by decide)
theorem take_succ {α : Type} {xs : List α} {i : Nat} {x : α} (h : xs[i]? = some x) : xs.take (i + 1) = xs.take i ++ [x] := by
  rw [List.take_succ, h]; rfl
section
variable {P : Program} {w : World} {K : PySem.W.Frag} {mg : Str → Option Value} {base : Heap} {A : Ad}
theorem Txt.bi (T : Txt P K mg A) : Binds K A.d_Table_init ["self", "columns", "rows"] [] := by
  obtain ⟨ds, hv, hb⟩ := T.F_Table_init.binds1 (ps := ["self", "columns", "rows"]) 3 1 (by simp) rfl (fun T kV dc pm an cd ct us its hl hi => by
    match us, hl, its, hi with
    | [_, _, _], _, [_], _ => exact ⟨_, rfl, rfl⟩)
  cases hv
  exact hb
theorem ls1 : Str.length ("wrong in an order: place " : Str) = 25 := by decide
theorem ok_BadOrder (T : Txt P K mg A) : FnOk P w K mg base CX0 1 A.a_BadOrder_init A.d_BadOrder_init ["self", "index"] (spX1 A.C_BadOrder "index" smallI) := by
  refine sup_ok T.SF_BadOrder ss_BadOrder_init T.SC_BadOrder rfl rfl rfl (fun _ => rfl) (fun _ => rfl) (fun _ => rfl) (fun vs H Q E h => ?_) (fun cda cc A' outer s H vs Q E hr h => ?_)
  · obtain ⟨a, y, rfl, _⟩ := h
    rfl
  · obtain ⟨a, y, rfl, ⟨i, rfl, hi⟩, ha, k⟩ := h
    have l1 := PyProof.Rows.int_text_len_1921 (small_log hi)
    refine ⟨a, _, _, rfl, ha, (pe_joined (PJ.cons pe_str (PJ.cons (pe_fmt (pv 1)) PJ.nil))), (pss_one (ps_ost (pv 0) (pv 1))), ?_⟩
    refine ⟨_, rfl, by rw [Str.empty_append, ls1]; decide, _, rfl, .inr ⟨i, rfl, small_log hi, _, rfl, ?_, (by decide : 1 ≤ 1000), ha, _, rfl, _, rfl, a, _, rfl, T.SC_BadOrder.ox, T.xn_BadOrder_index, .inl ⟨ha, fun d hd hne => k d hd hne⟩⟩⟩
    rw [Str.empty_append, Str.length_append, ls1]
    exact Nat.le_trans (Nat.add_le_add_left l1 25) (by decide)
theorem lsR : Str.length ("there is no row " : Str) = 16 := by decide
theorem ok_UnknownRow (T : Txt P K mg A) : FnOk P w K mg base CX0 1 A.a_UnknownRow_init A.d_UnknownRow_init ["self", "number"] (spX1 A.C_UnknownRow "number" smallI) := by
  refine sup_ok T.SF_UnknownRow ss_UnknownRow_init T.SC_UnknownRow rfl rfl rfl (fun _ => rfl) (fun _ => rfl) (fun _ => rfl) (fun vs H Q E h => ?_) (fun cda cc A' outer s H vs Q E hr h => ?_)
  · obtain ⟨a, y, rfl, _⟩ := h
    rfl
  · obtain ⟨a, y, rfl, ⟨i, rfl, hi⟩, ha, k⟩ := h
    have l1 := PyProof.Rows.int_text_len_1921 (small_log hi)
    refine ⟨a, _, _, rfl, ha, (pe_joined (PJ.cons pe_str (PJ.cons (pe_fmt (pv 1)) PJ.nil))), (pss_one (ps_ost (pv 0) (pv 1))), ?_⟩
    refine ⟨_, rfl, by rw [Str.empty_append, lsR]; decide, _, rfl, .inr ⟨i, rfl, small_log hi, _, rfl, ?_, (by decide : 1 ≤ 1000), ha, _, rfl, _, rfl, a, _, rfl, T.SC_UnknownRow.ox, T.xn_UnknownRow_number, .inl ⟨ha, fun d hd hne => k d hd hne⟩⟩⟩
    rw [Str.empty_append, Str.length_append, lsR]
    exact Nat.le_trans (Nat.add_le_add_left l1 16) (by decide)
theorem passS0 {X : Cx} : ∀ σ, PassesAt CX0 X σ ((fun _ => E0) σ) := fun _ _ _ _ _ _ _ h => h.elim
theorem fnIn_of {x qual : Str} {st : Stmt} {f : Addr} {fd : FuncData} (F : Fun K x qual st f fd) : PySem.W.fnIn K f = true := by
  obtain ⟨oc, od, kV, doc, pm, an, cdv, ct, osl, rfl, lk, hcd⟩ := F.ex
  unfold PySem.W.fnIn
  rw [lk]
/-- either of two promises -/
theorem fn_or {CX : CXT} {k : Nat} {f : Addr} {fd : FuncData} {ps : List Str} {s1 s2 : Sp} (h1 : FnOk P w K mg base CX k f fd ps s1) (h2 : FnOk P w K mg base CX k f fd ps s2) : FnOk P w K mg base CX k f fd ps (fun vs H Q E => s1 vs H Q E ∨ s2 vs H Q E) :=
  ⟨fun vs H Q E h => h.elim (h1.len vs H Q E) (h2.len vs H Q E), fun A S s H args us vs Q E hr e0 b r h => h.elim (h1.run A S s H args us vs Q E hr e0 b r) (h2.run A S s H args us vs Q E hr e0 b r)⟩
/-! ### names -/
theorem not_take {ns : List Str} {i : Nat} {z : Str} (nd : ns.Nodup) (hz : ns[i]? = some z) : z ∉ ns.take i := by
  intro hm
  obtain ⟨j, hj, e⟩ := List.mem_take_iff_getElem.mp hm
  obtain ⟨hi, e2⟩ := List.getElem?_eq_some_iff.mp hz
  rw [List.nodup_iff_pairwise_ne, List.pairwise_iff_getElem] at nd
  exact nd j i (by omega) hi (by omega) (e.trans e2.symm)
def spName : Sp := fun vs H Q _ => ∃ z, vs = [.str z] ∧ Good z ∧ ∀ H', Same H H' → Q (.bl true) H'
theorem ok_name (T : Txt P K mg A) : FnOk P w K mg base CX0 1 A.a_is_name A.d_is_name ["text"] spName := by
  refine T.F_is_name.ok sc_is_name (fun vs H Q E h => ?_) (fun cdv A' outer s H vs Q E hr h => ?_)
  · obtain ⟨z, rfl, _⟩ := h
    rfl
  · obtain ⟨z, rfl, g, k⟩ := h
    refine ⟨_, (pss_one (ps_ret (pe_and (pe_chain op_le op_le pe_int (pe_callB call_len_str (by rfl) T.n_len (by decide +kernel) (pa_cons (pv 0) pa_nil)) (pe_glob (v := .int 8) rfl T.mg_LONGEST_NAME.choose_spec ⟨_, rfl⟩)) (pe_one (pe_callB (cr_all rfl) (by rfl) T.n_all (by decide +kernel) (pa_cons (pe_lc (own := [("sign", 1)]) (g := gName 1) (tt := tYes) rfl sc_is_name.nd (pi_str (pv 0)) (blkOk_by (N := ["text", "sign"]) (sc := defScope s_is_name) (by decide +kernel)) (fun _ _ _ _ _ => (pg_name (i := 1) sc_is_name.nd rfl (Or.inl rfl))) (fun _ _ _ _ _ => pts_nil) (fun _ _ _ _ _ => (pe_chain op_le_str op_le_str pe_str (pv 1) pe_str))) pa_nil)))))), ?_⟩
    have hz : z.length ≤ sizeLine := Nat.le_trans g.le (by decide)
    refine ⟨_, rfl, z, rfl, hz, _, _, rfl, rfl, _, rfl, itY (by have := g.pos; omega) ⟨_, _, rfl, rfl, _, rfl, itY (by have := g.le; omega) ?_⟩⟩
    refine ⟨_, rfl, z, rfl, fun D hD => lc_it walk_str (PvS H D fun i => List.replicate i (V.bl true)) (pv0 hD rfl) (fun _ _ _ _ => trivial) ?_ ?_⟩
    · rintro i x H3 H4 hi p ⟨rfl, c, hc, rfl⟩
      have hl : 97 ≤ c ∧ c ≤ 122 := g.let_ c (by rw [Array.mem_toList_iff]; exact Array.mem_of_getElem? hc)
      refine ⟨rfl, ?_⟩
      refine ⟨_, rfl, _, _, rfl, rfl, _, rfl, ifT (by
        show (!decide ([c] < [97])) = true
        have : ¬ c < 97 := by omega
        simp [List.cons_lt_cons_iff]; omega) ⟨_, _, rfl, rfl, ?_⟩⟩
      have e : (!decide ([122] < [c])) = true := by
        simp [List.cons_lt_cons_iff]; omega
      refine p.push hD ?_ (by rw [List.length_replicate]; have := g.le; have h2 : z.cps.size = z.length := rfl; omega)
      show List.replicate (i + 1) (V.bl true) = List.replicate i (V.bl true) ++ [V.bl (!decide ([122] < [c]))]
      rw [e, List.replicate_succ']
    · rintro H3 ⟨sm, h3⟩
      refine ⟨D, List.replicate z.cps.size true, rfl, SqL.of (by rw [List.map_replicate]; exact h3), ?_⟩
      rw [List.all_replicate]
      have e : (if z.cps.size = 0 then true else id true) = true := by split <;> rfl
      first | exact k H3 sm | (rw [e]; exact k H3 sm) | (simp; exact k H3 sm)
def spFirstBad (K : PySem.W.Frag) : Sp := fun vs H Q _ => ∃ l ns, vs = [.ref l] ∧ SqL K H l (sv ns) ∧ (∀ z ∈ ns, Good z) ∧ ns.Nodup ∧ ns.length ≤ 1000 ∧ ∀ H', Same H H' → Q .non H'
theorem ok_firstBad (T : Txt P K mg A) : FnOk P w K mg base CX0 2 A.a_first_bad_name A.d_first_bad_name ["names"] (spFirstBad K) := by
  have G_is_name := ok_name (P := P) (w := w) (base := base) T
  refine T.F_first_bad_name.ok sc_first_bad_name (fun vs H Q E h => ?_) (fun cdv A' outer s H vs Q E hr h => ?_)
  · obtain ⟨l, ns, rfl, _⟩ := h
    rfl
  · obtain ⟨l, ns, rfl, hS, g, nd, hl, k⟩ := h
    refine ⟨_, (pss_cons (ps_for PassesOwn.never rfl (pi_enum (by rfl) T.n_enumerate (pa_cons (pv 0) pa_nil)) (pg_tup (by rfl) (pgs_cons (pg_name (i := 1) sc_first_bad_name.nd rfl (Or.inl rfl)) (pgs_cons (pg_name (i := 2) sc_first_bad_name.nd rfl (Or.inl rfl)) pgs_nil)))
        (pss_one (ps_if (PW.pt (pw_or (pt_not (pt_val (pe_call G_is_name (hr.mono (by decide)) rfl T.mg_is_name T.F_is_name.kp T.b_is_name .nil pass0 (pa_cons (pv 2) pa_nil)))) (pw_or1 (pt_cmpR op_in_seq (pv 2) (pe_slice sl_list (pv 0) po_none (po_some (pv 1))) (by with_unfolding_all rfl))))) (pss_one (ps_ret (pv 1))) pss_nil)))
      (pss_one (ps_ret pe_non))), ?_⟩
    refine ⟨_, rfl, l, _, rfl, hS, for_it walk_enum (fun i σ H2 => Same H H2 ∧ ∃ u1 u2 : Option V, σ = [some (.ref l), u1, u2]) ⟨Same.refl _, none, none, rfl⟩ (fun i σ H2 _ p => p.1.seq hS) ?_ ?_⟩
    · rintro i x σ H2 H3 hi ⟨sm, u1, u2, rfl⟩ ⟨t, _, _, rfl, ht, rfl, ⟨⟩, hx⟩
      obtain ⟨z, hz, rfl⟩ := sv_get hx
      refine ⟨t, _, rfl, SqT.of upd_same, rfl, _, _, rfl, _, _, rfl, rfl, ?_⟩
      refine ⟨_, rfl, z, rfl, g z (List.mem_of_getElem? hz), fun H4 sm4 => ⟨true, rfl, ?_⟩⟩
      have s4 : Same H H4 := sm.trans ((same_new ht).trans sm4)
      refine iteF ⟨_, rfl, _, rfl, _, rfl, _, rfl, l, _, rfl, s4.seq hS, fun p hp => ⟨p, _, rfl, .inl (SqL.of upd_same), rfl, ?_, _, rfl, ifF ?_ ⟨s4.trans (same_new hp), _, _, rfl⟩⟩⟩
      · rw [cut_take (by omega), sv_take]; exact flat_sv _
      · show inV (V.str z) (cutV (sv ns) none (some (i : Int))) = false
        rw [cut_take (by omega), sv_take, inV_str]
        exact decide_eq_false (not_take nd hz)
    · rintro σ H2 ⟨sm, u1, u2, rfl⟩
      exact k H2 sm
def spStray (sq1 sq2 : Hp → Addr → List V → Prop) : Sp := fun vs H Q _ => ∃ c l cs ns, vs = [.ref c, .ref l] ∧ sq1 H c (sv cs) ∧ sq2 H l (sv ns) ∧ ns.length ≤ 1000 ∧ ∀ H', Same H H' → Q (optV (stray cs ns)) H'
theorem ok_stray (T : Txt P K mg A) : FnOk P w K mg base CX0 1 A.a_first_stray A.d_first_stray ["columns", "names"] (spStray (SqL K) (SqL K)) := by
  refine T.F_first_stray.ok sc_first_stray (fun vs H Q E h => ?_) (fun cdv A' outer s H vs Q E hr h => ?_)
  · obtain ⟨c, l, cs, ns, rfl, _⟩ := h
    rfl
  · obtain ⟨c, l, cs, ns, rfl, h1, h2, hl, k⟩ := h
    refine ⟨_, (pss_cons (ps_for PassesOwn.never rfl (pi_enum (by rfl) T.n_enumerate (pa_cons (pv 1) pa_nil)) (pg_tup (by rfl) (pgs_cons (pg_name (i := 2) sc_first_stray.nd rfl (Or.inl rfl)) (pgs_cons (pg_name (i := 3) sc_first_stray.nd rfl (Or.inl rfl)) pgs_nil)))
        (pss_one (ps_if (PW.pt (pw_or (pt_cmpR op_notIn_seq (pv 3) (pv 0) (by with_unfolding_all rfl)) (pw_or1 (pt_cmpR op_in_seq (pv 3) (pe_slice sl_list (pv 1) po_none (po_some (pv 2))) (by with_unfolding_all rfl))))) (pss_one (ps_ret (pv 2))) pss_nil)))
      (pss_one (ps_ret pe_non))), ?_⟩
    refine ⟨_, rfl, l, _, rfl, h2, for_it walk_enum (fun i σ H2 => Same H H2 ∧ (∀ j, j < i → badAt cs ns j = false) ∧ ∃ u1 u2 : Option V, σ = [some (.ref c), some (.ref l), u1, u2]) ⟨Same.refl _, fun j hj => absurd hj (Nat.not_lt_zero _), none, none, rfl⟩ (fun i σ H2 _ p => p.1.seq h2) ?_ ?_⟩
    · rintro i x σ H2 H3 hi ⟨sm, hb, u1, u2, rfl⟩ ⟨t, _, _, rfl, ht, rfl, ⟨⟩, hx⟩
      obtain ⟨z, hz, rfl⟩ := sv_get hx
      have hil : i < ns.length := by rw [len_sv] at hi; exact hi
      have bad : badAt cs ns i = (!decide (z ∈ cs) || decide (z ∈ ns.take i)) := by unfold badAt; rw [hz]
      refine ⟨t, _, rfl, SqT.of upd_same, rfl, _, _, rfl, _, _, rfl, rfl, ?_⟩
      have s3 : Same H (upd H2 t (.tup [.int (i : Nat), .str z])) := sm.trans (same_new ht)
      refine ⟨_, rfl, _, rfl, c, _, rfl, .inl (s3.seq h1), rfl, flat_sv _, _, rfl, ?_⟩
      rw [if_pos (rfl : true = true), inV_str]
      by_cases hc : z ∈ cs
      · refine ifF (by rw [decide_eq_true hc]; rfl) ?_
        refine ⟨_, rfl, _, rfl, _, rfl, _, rfl, l, _, rfl, s3.seq h2, fun p hp => ⟨p, _, rfl, .inl (SqL.of upd_same), rfl, by rw [cut_take (by omega), sv_take]; exact flat_sv _, _, rfl, ?_⟩⟩
        rw [if_neg Bool.false_ne_true, cut_take (by omega), sv_take, inV_str]
        have s4 := s3.trans (same_new (o := .lst (cutV (sv ns) none (some ((i : Nat) : Int)))) hp)
        rw [cut_take (by omega), sv_take] at s4
        by_cases hp2 : z ∈ ns.take i
        · refine ifT (decide_eq_true hp2) ⟨_, rfl, ?_⟩
          have e := stray_some (cs := cs) hil (by rw [bad, decide_eq_true hp2, Bool.or_true]) hb
          rw [e] at k
          exact k _ s4
        · refine ifF (decide_eq_false hp2) ⟨s4, fun j hj => ?_, _, _, rfl⟩
          rcases Nat.lt_succ_iff_lt_or_eq.mp hj with q | q
          · exact hb j q
          · rw [q, bad, decide_eq_true hc, decide_eq_false hp2]; rfl
      · refine ifT (by rw [decide_eq_false hc]; rfl) (ifT rfl ⟨_, rfl, ?_⟩)
        have e := stray_some (cs := cs) hil (by rw [bad, decide_eq_false hc]; rfl) hb
        rw [e] at k
        exact k _ s3
    · rintro σ H2 ⟨sm, hb, u1, u2, rfl⟩
      have e := stray_none (cs := cs) (ns := ns) fun j hj => hb j (by rw [len_sv]; exact hj)
      rw [e] at k
      exact k H2 sm
theorem ok_strayTL (T : Txt P K mg A) : FnOk P w K mg base CX0 1 A.a_first_stray A.d_first_stray ["columns", "names"] (spStray (SqT K) (SqL K)) := by
  refine T.F_first_stray.ok sc_first_stray (fun vs H Q E h => ?_) (fun cdv A' outer s H vs Q E hr h => ?_)
  · obtain ⟨c, l, cs, ns, rfl, _⟩ := h
    rfl
  · obtain ⟨c, l, cs, ns, rfl, h1, h2, hl, k⟩ := h
    refine ⟨_, (pss_cons (ps_for PassesOwn.never rfl (pi_enum (by rfl) T.n_enumerate (pa_cons (pv 1) pa_nil)) (pg_tup (by rfl) (pgs_cons (pg_name (i := 2) sc_first_stray.nd rfl (Or.inl rfl)) (pgs_cons (pg_name (i := 3) sc_first_stray.nd rfl (Or.inl rfl)) pgs_nil)))
        (pss_one (ps_if (PW.pt (pw_or (pt_cmpR op_notIn_seq (pv 3) (pv 0) (by with_unfolding_all rfl)) (pw_or1 (pt_cmpR op_in_seq (pv 3) (pe_slice sl_list (pv 1) po_none (po_some (pv 2))) (by with_unfolding_all rfl))))) (pss_one (ps_ret (pv 2))) pss_nil)))
      (pss_one (ps_ret pe_non))), ?_⟩
    refine ⟨_, rfl, l, _, rfl, h2, for_it walk_enum (fun i σ H2 => Same H H2 ∧ (∀ j, j < i → badAt cs ns j = false) ∧ ∃ u1 u2 : Option V, σ = [some (.ref c), some (.ref l), u1, u2]) ⟨Same.refl _, fun j hj => absurd hj (Nat.not_lt_zero _), none, none, rfl⟩ (fun i σ H2 _ p => p.1.seq h2) ?_ ?_⟩
    · rintro i x σ H2 H3 hi ⟨sm, hb, u1, u2, rfl⟩ ⟨t, _, _, rfl, ht, rfl, ⟨⟩, hx⟩
      obtain ⟨z, hz, rfl⟩ := sv_get hx
      have hil : i < ns.length := by rw [len_sv] at hi; exact hi
      have bad : badAt cs ns i = (!decide (z ∈ cs) || decide (z ∈ ns.take i)) := by unfold badAt; rw [hz]
      refine ⟨t, _, rfl, SqT.of upd_same, rfl, _, _, rfl, _, _, rfl, rfl, ?_⟩
      have s3 : Same H (upd H2 t (.tup [.int (i : Nat), .str z])) := sm.trans (same_new ht)
      refine ⟨_, rfl, _, rfl, c, _, rfl, .inr (s3.tup h1), rfl, flat_sv _, _, rfl, ?_⟩
      rw [if_pos (rfl : true = true), inV_str]
      by_cases hc : z ∈ cs
      · refine ifF (by rw [decide_eq_true hc]; rfl) ?_
        refine ⟨_, rfl, _, rfl, _, rfl, _, rfl, l, _, rfl, s3.seq h2, fun p hp => ⟨p, _, rfl, .inl (SqL.of upd_same), rfl, by rw [cut_take (by omega), sv_take]; exact flat_sv _, _, rfl, ?_⟩⟩
        rw [if_neg Bool.false_ne_true, cut_take (by omega), sv_take, inV_str]
        have s4 := s3.trans (same_new (o := .lst (cutV (sv ns) none (some ((i : Nat) : Int)))) hp)
        rw [cut_take (by omega), sv_take] at s4
        by_cases hp2 : z ∈ ns.take i
        · refine ifT (decide_eq_true hp2) ⟨_, rfl, ?_⟩
          have e := stray_some (cs := cs) hil (by rw [bad, decide_eq_true hp2, Bool.or_true]) hb
          rw [e] at k
          exact k _ s4
        · refine ifF (decide_eq_false hp2) ⟨s4, fun j hj => ?_, _, _, rfl⟩
          rcases Nat.lt_succ_iff_lt_or_eq.mp hj with q | q
          · exact hb j q
          · rw [q, bad, decide_eq_true hc, decide_eq_false hp2]; rfl
      · refine ifT (by rw [decide_eq_false hc]; rfl) (ifT rfl ⟨_, rfl, ?_⟩)
        have e := stray_some (cs := cs) hil (by rw [bad, decide_eq_false hc]; rfl) hb
        rw [e] at k
        exact k _ s3
    · rintro σ H2 ⟨sm, hb, u1, u2, rfl⟩
      have e := stray_none (cs := cs) (ns := ns) fun j hj => hb j (by rw [len_sv]; exact hj)
      rw [e] at k
      exact k H2 sm
theorem ok_strayTT (T : Txt P K mg A) : FnOk P w K mg base CX0 1 A.a_first_stray A.d_first_stray ["columns", "names"] (spStray (SqT K) (SqT K)) := by
  refine T.F_first_stray.ok sc_first_stray (fun vs H Q E h => ?_) (fun cdv A' outer s H vs Q E hr h => ?_)
  · obtain ⟨c, l, cs, ns, rfl, _⟩ := h
    rfl
  · obtain ⟨c, l, cs, ns, rfl, h1, h2, hl, k⟩ := h
    refine ⟨_, (pss_cons (ps_for PassesOwn.never rfl (pi_enumT (by rfl) T.n_enumerate (pa_cons (pv 1) pa_nil)) (pg_tup (by rfl) (pgs_cons (pg_name (i := 2) sc_first_stray.nd rfl (Or.inl rfl)) (pgs_cons (pg_name (i := 3) sc_first_stray.nd rfl (Or.inl rfl)) pgs_nil)))
        (pss_one (ps_if (PW.pt (pw_or (pt_cmpR op_notIn_seq (pv 3) (pv 0) (by with_unfolding_all rfl)) (pw_or1 (pt_cmpR op_in_seq (pv 3) (pe_slice sl_tup (pv 1) po_none (po_some (pv 2))) (by with_unfolding_all rfl))))) (pss_one (ps_ret (pv 2))) pss_nil)))
      (pss_one (ps_ret pe_non))), ?_⟩
    refine ⟨_, rfl, l, _, rfl, h2, for_it walk_enumT (fun i σ H2 => Same H H2 ∧ (∀ j, j < i → badAt cs ns j = false) ∧ ∃ u1 u2 : Option V, σ = [some (.ref c), some (.ref l), u1, u2]) ⟨Same.refl _, fun j hj => absurd hj (Nat.not_lt_zero _), none, none, rfl⟩ (fun i σ H2 _ p => p.1.tup h2) ?_ ?_⟩
    · rintro i x σ H2 H3 hi ⟨sm, hb, u1, u2, rfl⟩ ⟨t, _, _, rfl, ht, rfl, ⟨⟩, hx⟩
      obtain ⟨z, hz, rfl⟩ := sv_get hx
      have hil : i < ns.length := by rw [len_sv] at hi; exact hi
      have bad : badAt cs ns i = (!decide (z ∈ cs) || decide (z ∈ ns.take i)) := by unfold badAt; rw [hz]
      refine ⟨t, _, rfl, SqT.of upd_same, rfl, _, _, rfl, _, _, rfl, rfl, ?_⟩
      have s3 : Same H (upd H2 t (.tup [.int (i : Nat), .str z])) := sm.trans (same_new ht)
      refine ⟨_, rfl, _, rfl, c, _, rfl, .inr (s3.tup h1), rfl, flat_sv _, _, rfl, ?_⟩
      rw [if_pos (rfl : true = true), inV_str]
      by_cases hc : z ∈ cs
      · refine ifF (by rw [decide_eq_true hc]; rfl) ?_
        refine ⟨_, rfl, _, rfl, _, rfl, _, rfl, l, _, rfl, s3.tup h2, fun z => (by have z2 := z.2; rw [HT.sIx_nat, len_sv] at z2; omega), fun p hp => ⟨p, _, rfl, .inr (SqT.of upd_same), rfl, by rw [cut_take (by omega), sv_take]; exact flat_sv _, _, rfl, ?_⟩⟩
        rw [if_neg Bool.false_ne_true, cut_take (by omega), sv_take, inV_str]
        have s4 := s3.trans (same_new (o := .tup (cutV (sv ns) none (some ((i : Nat) : Int)))) hp)
        rw [cut_take (by omega), sv_take] at s4
        by_cases hp2 : z ∈ ns.take i
        · refine ifT (decide_eq_true hp2) ⟨_, rfl, ?_⟩
          have e := stray_some (cs := cs) hil (by rw [bad, decide_eq_true hp2, Bool.or_true]) hb
          rw [e] at k
          exact k _ s4
        · refine ifF (decide_eq_false hp2) ⟨s4, fun j hj => ?_, _, _, rfl⟩
          rcases Nat.lt_succ_iff_lt_or_eq.mp hj with q | q
          · exact hb j q
          · rw [q, bad, decide_eq_true hc, decide_eq_false hp2]; rfl
      · refine ifT (by rw [decide_eq_false hc]; rfl) (ifT rfl ⟨_, rfl, ?_⟩)
        have e := stray_some (cs := cs) hil (by rw [bad, decide_eq_false hc]; rfl) hb
        rw [e] at k
        exact k _ s3
    · rintro σ H2 ⟨sm, hb, u1, u2, rfl⟩
      have e := stray_none (cs := cs) (ns := ns) fun j hj => hb j (by rw [len_sv]; exact hj)
      rw [e] at k
      exact k H2 sm
/-! ### an order of the columns -/
def spFault (K : PySem.W.Frag) (sq2 : Hp → Addr → List V → Prop) : Sp := fun vs H Q _ => ∃ c l cs ns, vs = [.ref c, .ref l] ∧ SqT K H c (sv cs) ∧ sq2 H l (sv ns) ∧ ns.length ≤ 1000 ∧ ∀ H', Same H H' → Q (optV (fault cs ns)) H'
theorem ok_fault (T : Txt P K mg A) : FnOk P w K mg base CX0 2 A.a_order_fault A.d_order_fault ["columns", "order"] (spFault K (SqL K)) := by
  have G_first_strayTL := ok_strayTL (P := P) (w := w) (base := base) T
  refine T.F_order_fault.ok sc_order_fault (fun vs H Q E h => ?_) (fun cdv A' outer s H vs Q E hr h => ?_)
  · obtain ⟨c, l, cs, ns, rfl, _⟩ := h
    rfl
  · obtain ⟨c, l, cs, ns, rfl, h1, h2, hl, k⟩ := h
    refine ⟨_, (pss_cons (ps_set (i := 2) sc_order_fault.nd rfl (Or.inl rfl) (pe_call G_first_strayTL (hr.mono (by decide)) rfl T.mg_first_stray T.F_first_stray.kp T.b_first_stray .nil pass0 (pa_cons (pv 0) (pa_cons (pv 1) pa_nil))))
      (pss_cons (ps_if (PW.pt (pw_and (pt_cmpR op_isN (pv 2) pe_non (nomark _)) (pw_and1 (pt_cmpR op_lt (pe_callB call_len_seq (by rfl) T.n_len (by decide +kernel) (pa_cons (pv 1) pa_nil)) (pe_callB call_len_seq (by rfl) T.n_len (by decide +kernel) (pa_cons (pv 0) pa_nil)) (nomark _))))) (pss_one (ps_ret (pe_callB call_len_seq (by rfl) T.n_len (by decide +kernel) (pa_cons (pv 1) pa_nil)))) pss_nil)
      (pss_one (ps_ret (pv 2))))), ?_⟩
    refine ⟨_, rfl, _, rfl, c, l, cs, ns, rfl, h1, h2, hl, fun H2 sm => ?_⟩
    refine ⟨_, rfl, rfl, _, rfl, ?_⟩
    unfold fault at k
    cases hs : stray cs ns with
    | some i =>
      rw [hs] at k
      refine itN (fun z => nomatch z) (iteF ⟨_, rfl, ?_⟩)
      exact k _ sm
    | none =>
      rw [hs] at k
      refine itY rfl ⟨_, rfl, l, _, rfl, .inl (sm.seq h2), _, rfl, c, _, rfl, .inr (sm.tup h1), _, _, rfl, rfl, _, rfl, ?_⟩
      by_cases hlt : ns.length < cs.length
      · refine itY (by rw [len_sv, len_sv]; omega) ⟨_, rfl, l, _, rfl, .inl (sm.seq h2), ?_⟩
        have k : ∀ H', Same H H' → Q (optV (if ns.length < cs.length then some ns.length else none)) H' := k
        rw [if_pos hlt] at k
        rw [len_sv]
        exact k _ sm
      · refine itN (by rw [len_sv, len_sv]; omega) ⟨_, rfl, ?_⟩
        have k : ∀ H', Same H H' → Q (optV (if ns.length < cs.length then some ns.length else none)) H' := k
        rw [if_neg hlt] at k
        exact k _ sm
theorem ok_faultT (T : Txt P K mg A) : FnOk P w K mg base CX0 2 A.a_order_fault A.d_order_fault ["columns", "order"] (spFault K (SqT K)) := by
  have G_first_strayTT := ok_strayTT (P := P) (w := w) (base := base) T
  refine T.F_order_fault.ok sc_order_fault (fun vs H Q E h => ?_) (fun cdv A' outer s H vs Q E hr h => ?_)
  · obtain ⟨c, l, cs, ns, rfl, _⟩ := h
    rfl
  · obtain ⟨c, l, cs, ns, rfl, h1, h2, hl, k⟩ := h
    refine ⟨_, (pss_cons (ps_set (i := 2) sc_order_fault.nd rfl (Or.inl rfl) (pe_call G_first_strayTT (hr.mono (by decide)) rfl T.mg_first_stray T.F_first_stray.kp T.b_first_stray .nil pass0 (pa_cons (pv 0) (pa_cons (pv 1) pa_nil))))
      (pss_cons (ps_if (PW.pt (pw_and (pt_cmpR op_isN (pv 2) pe_non (nomark _)) (pw_and1 (pt_cmpR op_lt (pe_callB call_len_seq (by rfl) T.n_len (by decide +kernel) (pa_cons (pv 1) pa_nil)) (pe_callB call_len_seq (by rfl) T.n_len (by decide +kernel) (pa_cons (pv 0) pa_nil)) (nomark _))))) (pss_one (ps_ret (pe_callB call_len_seq (by rfl) T.n_len (by decide +kernel) (pa_cons (pv 1) pa_nil)))) pss_nil)
      (pss_one (ps_ret (pv 2))))), ?_⟩
    refine ⟨_, rfl, _, rfl, c, l, cs, ns, rfl, h1, h2, hl, fun H2 sm => ?_⟩
    refine ⟨_, rfl, rfl, _, rfl, ?_⟩
    unfold fault at k
    cases hs : stray cs ns with
    | some i =>
      rw [hs] at k
      refine itN (fun z => nomatch z) (iteF ⟨_, rfl, ?_⟩)
      exact k _ sm
    | none =>
      rw [hs] at k
      refine itY rfl ⟨_, rfl, l, _, rfl, .inr (sm.tup h2), _, rfl, c, _, rfl, .inr (sm.tup h1), _, _, rfl, rfl, _, rfl, ?_⟩
      by_cases hlt : ns.length < cs.length
      · refine itY (by rw [len_sv, len_sv]; omega) ⟨_, rfl, l, _, rfl, .inr (sm.tup h2), ?_⟩
        have k : ∀ H', Same H H' → Q (optV (if ns.length < cs.length then some ns.length else none)) H' := k
        rw [if_pos hlt] at k
        rw [len_sv]
        exact k _ sm
      · refine itN (by rw [len_sv, len_sv]; omega) ⟨_, rfl, ?_⟩
        have k : ∀ H', Same H H' → Q (optV (if ns.length < cs.length then some ns.length else none)) H' := k
        rw [if_neg hlt] at k
        exact k _ sm
def spCount (K : PySem.W.Frag) : Sp := fun vs H Q _ => ∃ l fl, vs = [.ref l] ∧ SqL K H l (fl.map V.bl) ∧ fl.length ≤ 1000 ∧ ∀ H', Same H H' → Q (.int (runs fl : Nat)) H'
theorem ok_count (T : Txt P K mg A) : FnOk P w K mg base CX0 1 A.a_count_runs A.d_count_runs ["flags"] (spCount K) := by
  refine T.F_count_runs.ok sc_count_runs (fun vs H Q E h => ?_) (fun cdv A' outer s H vs Q E hr h => ?_)
  · obtain ⟨l, fl, rfl, _⟩ := h
    rfl
  · obtain ⟨l, fl, rfl, h1, hl, k⟩ := h
    refine ⟨_, (pss_one (ps_ret (pe_callB call_len_seq (by rfl) T.n_len (by decide +kernel) (pa_cons (pe_lc (own := [("at", 1), ("flag", 2)]) (g := gTup K 2 (gCons (gName 1) (gCons (gName 2) gNil))) (tt := _) rfl sc_count_runs.nd (pi_enum (by rfl) T.n_enumerate (pa_cons (pv 0) pa_nil)) (blkOk_by (N := ["flags", "at", "flag"]) (sc := defScope s_count_runs) (by decide +kernel)) (fun _ _ _ _ _ => (pg_tup (by rfl) (pgs_cons (pg_name (i := 1) sc_count_runs.nd rfl (Or.inl rfl)) (pgs_cons (pg_name (i := 2) sc_count_runs.nd rfl (Or.inl rfl)) pgs_nil)))) (fun _ _ _ _ _ => (pts_one (PW.pt (pw_and (pt_val (pv 2)) (pw_and1 (pt_not (PW.pt (pw_and (pt_cmpR op_gt (pv 1) pe_int (nomark _)) (pw_and1 (pt_val (pe_ix (show IxR _ (rIxL K) from ix_list) (pv 0) (pe_op op_sub (pv 1) pe_int) (fun _ _ => rfl)))))))))))) (fun _ _ _ _ _ => (pv 1))) pa_nil)))), ?_⟩
    have stepT : ∀ i, runAt fl i = true → (((List.range (i + 1)).filter (runAt fl)).map fun n => V.int (n : Nat)) = (((List.range i).filter (runAt fl)).map fun n => V.int (n : Nat)) ++ [V.int (i : Nat)] := fun i h => by
      rw [List.range_succ, List.filter_append, List.map_append, List.filter_cons_of_pos h]; rfl
    have stepF : ∀ i, runAt fl i = false → (((List.range (i + 1)).filter (runAt fl)).map fun n => V.int (n : Nat)) = (((List.range i).filter (runAt fl)).map fun n => V.int (n : Nat)) := fun i h => by
      rw [List.range_succ, List.filter_append, List.map_append, List.filter_cons_of_neg (by rw [h]; decide)]; simp
    have lenF : ∀ i, i ≤ fl.length → (((List.range i).filter (runAt fl)).map fun n => V.int (n : Nat)).length ≤ 1000000 := fun i h => by
      have := List.length_filter_le (runAt fl) (List.range i)
      rw [List.length_range] at this
      rw [List.length_map]; omega
    refine ⟨_, rfl, l, _, rfl, h1, fun D hD => lc_it walk_enum (PvS H D fun i => ((List.range i).filter (runAt fl)).map fun n => V.int (n : Nat)) (pv0 hD rfl) (fun i H2 _ p => p.1.seq h1) ?_ ?_⟩
    · rintro i x H3 H4 hi p ⟨t, _, _, rfl, ht, rfl, ⟨⟩, hx⟩
      have hil : i < fl.length := by rw [List.length_map] at hi; exact hi
      have hb : fl[i]? = some fl[i] := List.getElem?_eq_getElem hil
      have hd : fl.getD i false = fl[i] := by rw [List.getD_eq_getElem?_getD, hb]; rfl
      have hx : (fl.map V.bl)[i]? = some _ := hx
      rw [List.getElem?_map, hb] at hx
      cases hx
      generalize fl[i] = b at hb hd
      have p' := p.more (same_new (o := .tup [.int (i : Nat), .bl b]) ht)
      refine ⟨t, _, rfl, SqT.of upd_same, rfl, _, _, rfl, _, _, rfl, rfl, rfl, ?_⟩
      cases b with
      | false =>
        refine ⟨_, rfl, _, rfl, iteF (iteF (p'.skip (stepF i ?_)))⟩
        unfold runAt; rw [hd]; rfl
      | true =>
        refine ⟨_, rfl, _, rfl, iteT ⟨_, rfl, _, _, rfl, rfl, _, rfl, ?_⟩⟩
        by_cases h0 : 0 < i
        · refine itY (by omega) ?_
          have hp1 : i - 1 < fl.length := by omega
          have e1 : fl.getD (i - 1) false = fl[i - 1] := by rw [List.getD_eq_getElem?_getD, List.getElem?_eq_getElem hp1]; rfl
          have at1 : atI (fl.map V.bl) ((i : Int) - 1) = some (V.bl fl[i - 1]) := by
            have := atI_nat (xs := fl.map V.bl) (j := i - 1) (v := V.bl fl[i - 1]) (by rw [List.getElem?_map, List.getElem?_eq_getElem hp1]; rfl)
            rw [show (((i - 1 : Nat) : Int)) = (i : Int) - 1 by omega] at this
            exact this
          refine ⟨_, rfl, _, rfl, _, _, rfl, rfl, l, _, _, _, rfl, rfl, p'.1.seq h1, at1, _, rfl, ?_⟩
          generalize fl[i - 1] = b' at e1
          cases b' with
          | false =>
            refine iteT ⟨_, rfl, p'.push hD (stepT i ?_) (lenF i (by omega))⟩
            unfold runAt; rw [hd, e1]; simp
          | true =>
            refine iteF (p'.skip (stepF i ?_))
            unfold runAt; rw [hd, e1, decide_eq_true h0]; rfl
        · refine itN (by omega) (iteT ⟨_, rfl, p'.push hD (stepT i ?_) (lenF i (by omega))⟩)
          unfold runAt; rw [hd, decide_eq_false h0]; rfl
    · rintro H3 ⟨sm, h3⟩
      refine ⟨D, _, rfl, .inl (SqL.of h3), ?_⟩
      rw [List.length_map, List.length_map]
      exact k H3 sm
def spRuns (K : PySem.W.Frag) (sq2 : Hp → Addr → List V → Prop) : Sp := fun vs H Q _ => ∃ r l rs ns, vs = [.ref r, .ref l] ∧ SqT K H r (sv rs) ∧ sq2 H l (sv ns) ∧ ns.length ≤ 1000 ∧ ∀ H', Same H H' → Q (.int (runs (flags ns rs) : Nat)) H'
theorem ok_runs (T : Txt P K mg A) : FnOk P w K mg base CX0 2 A.a_runs_of A.d_runs_of ["row", "order"] (spRuns K (SqL K)) := by
  have G_count_runs := ok_count (P := P) (w := w) (base := base) T
  refine T.F_runs_of.ok sc_runs_of (fun vs H Q E h => ?_) (fun cdv A' outer s H vs Q E hr h => ?_)
  · obtain ⟨r, l, rs, ns, rfl, _⟩ := h
    rfl
  · obtain ⟨r, l, rs, ns, rfl, h1, h2, hl, k⟩ := h
    refine ⟨_, (pss_one (ps_ret (pe_call G_count_runs (hr.mono (by decide)) rfl T.mg_count_runs T.F_count_runs.kp T.b_count_runs .nil pass0 (pa_cons (pe_lc (own := [("name", 2)]) (g := gName 2) (tt := tYes) rfl sc_runs_of.nd (pi_list (pv 1)) (blkOk_by (N := ["row", "order", "name"]) (sc := defScope s_runs_of) (by decide +kernel)) (fun _ _ _ _ _ => (pg_name (i := 2) sc_runs_of.nd rfl (Or.inl rfl))) (fun _ _ _ _ _ => pts_nil) (fun _ _ _ _ _ => (pe_cmpR (show OpR _ _ (rIn K false) from op_in_seq) (pv 2) (pv 0) (by with_unfolding_all rfl)))) pa_nil)))), ?_⟩
    refine ⟨_, rfl, l, rfl, ⟨_, h2⟩, fun D hD => lc_it walk_list (PvS H D fun i => ((flags ns rs).take i).map V.bl) (pv0 hD rfl) (fun i H2 _ p => p.1.seq h2) ?_ ?_⟩
    · rintro i x H3 H4 hi p ⟨rfl, hx⟩
      obtain ⟨z, hz, rfl⟩ := sv_get hx
      refine ⟨rfl, _, rfl, _, rfl, r, _, rfl, .inr (p.1.tup h1), rfl, flat_sv _, p.push hD ?_ ?_⟩
      · rw [if_neg Bool.false_ne_true, inV_str]
        have hf : (flags ns rs)[i]? = some (decide (z ∈ rs)) := by unfold flags; rw [List.getElem?_map, hz]; rfl
        show ((flags ns rs).take (i + 1)).map V.bl = _
        rw [take_succ hf, List.map_append]; rfl
      · show (((flags ns rs).take i).map V.bl).length ≤ 1000000
        rw [List.length_map, List.length_take]
        rw [len_sv] at hi
        omega
    · rintro H3 ⟨sm, h3⟩
      have hfl : (flags ns rs).length = (sv ns).length := by unfold flags; rw [List.length_map, len_sv]
      have h3 : H3 D = some (.lst (((flags ns rs).take (sv ns).length).map V.bl)) := h3
      rw [← hfl, List.take_length] at h3
      refine ⟨D, flags ns rs, rfl, SqL.of h3, by rw [hfl, len_sv]; exact hl, fun H' sm' => k H' (sm.trans sm')⟩
theorem ok_runsT (T : Txt P K mg A) : FnOk P w K mg base CX0 2 A.a_runs_of A.d_runs_of ["row", "order"] (spRuns K (SqT K)) := by
  have G_count_runs := ok_count (P := P) (w := w) (base := base) T
  refine T.F_runs_of.ok sc_runs_of (fun vs H Q E h => ?_) (fun cdv A' outer s H vs Q E hr h => ?_)
  · obtain ⟨r, l, rs, ns, rfl, _⟩ := h
    rfl
  · obtain ⟨r, l, rs, ns, rfl, h1, h2, hl, k⟩ := h
    refine ⟨_, (pss_one (ps_ret (pe_call G_count_runs (hr.mono (by decide)) rfl T.mg_count_runs T.F_count_runs.kp T.b_count_runs .nil pass0 (pa_cons (pe_lc (own := [("name", 2)]) (g := gName 2) (tt := tYes) rfl sc_runs_of.nd (pi_tup (pv 1)) (blkOk_by (N := ["row", "order", "name"]) (sc := defScope s_runs_of) (by decide +kernel)) (fun _ _ _ _ _ => (pg_name (i := 2) sc_runs_of.nd rfl (Or.inl rfl))) (fun _ _ _ _ _ => pts_nil) (fun _ _ _ _ _ => (pe_cmpR (show OpR _ _ (rIn K false) from op_in_seq) (pv 2) (pv 0) (by with_unfolding_all rfl)))) pa_nil)))), ?_⟩
    refine ⟨_, rfl, l, rfl, ⟨_, h2⟩, fun D hD => lc_it walk_tup (PvS H D fun i => ((flags ns rs).take i).map V.bl) (pv0 hD rfl) (fun i H2 _ p => p.1.tup h2) ?_ ?_⟩
    · rintro i x H3 H4 hi p ⟨rfl, hx⟩
      obtain ⟨z, hz, rfl⟩ := sv_get hx
      refine ⟨rfl, _, rfl, _, rfl, r, _, rfl, .inr (p.1.tup h1), rfl, flat_sv _, p.push hD ?_ ?_⟩
      · rw [if_neg Bool.false_ne_true, inV_str]
        have hf : (flags ns rs)[i]? = some (decide (z ∈ rs)) := by unfold flags; rw [List.getElem?_map, hz]; rfl
        show ((flags ns rs).take (i + 1)).map V.bl = _
        rw [take_succ hf, List.map_append]; rfl
      · show (((flags ns rs).take i).map V.bl).length ≤ 1000000
        rw [List.length_map, List.length_take]
        rw [len_sv] at hi
        omega
    · rintro H3 ⟨sm, h3⟩
      have hfl : (flags ns rs).length = (sv ns).length := by unfold flags; rw [List.length_map, len_sv]
      have h3 : H3 D = some (.lst (((flags ns rs).take (sv ns).length).map V.bl)) := h3
      rw [← hfl, List.take_length] at h3
      refine ⟨D, flags ns rs, rfl, SqL.of h3, by rw [hfl, len_sv]; exact hl, fun H' sm' => k H' (sm.trans sm')⟩
end
end My
set_option maxRecDepth 100000
set_option maxHeartbeats 4000000
namespace My
open PySem L2
theorem itNe {A B : Prop} {x y : V} (h : x = y) (h2 : B) : if (!decide (x = y)) = true then A else B := by
  rw [decide_eq_true h]; exact iteF h2
theorem itNeN {A B : Prop} {x y : V} (h : x ≠ y) (h2 : A) : if (!decide (x = y)) = true then A else B := by
  rw [decide_eq_false h]; exact iteT h2
/-- a def that may raise -/
theorem funX {P : Program} {w : World} {K : PySem.W.Frag} {mg : Str → Option Value} {base : Heap} {CX : CXT} {x qual : Str} {st : Stmt} {f : Addr} {fd : FuncData} {N ps : List Str} {k : Nat} {sp : Sp} (F : Fun K x qual st f fd) (S : FnScope N ps (defScope st)) (len : ∀ vs H Q E, sp vs H Q E → vs.length = ps.length)
    (hbody : ∀ (cdv : Value) (A : Around) (outer : List Env) (s : Shared) (H : Hp) (vs : List V) (Q : VK) (E : XK), Room k (A.deeper (PyProof.Rows.envOfC qual (defScope st) s.heap.objs.size f cdv)) → sp vs H Q E →
      ∃ t, PSs (cxOf CX P w K mg base N qual (defScope st) f cdv A outer s H E) (defBody st) t ∧ t { nx := fun _ H' => Q .non H', rt := Q } (L2.start N vs) H) : FnOk P w K mg base CX (k + 1) f fd ps sp := by
  obtain ⟨oc, od, kV, doc, pm, an, cdv, ct, osl, rfl, lk, hcd⟩ := F.ex
  exact fn_of lk hcd S len fun A outer s H vs Q E hr hsp => hbody cdv A outer s H vs Q E hr hsp
theorem seq_upd {K : PySem.W.Frag} {H : Hp} {a b : Addr} {xs : List V} {u o : HO} (h : SqL K H a xs) (hb : H b = some u) (h1 : ∀ ys, u ≠ .lst ys) (h2 : ∀ c d, u ≠ .frz c d) : SqL K (upd H b o) a xs := by
  rcases h with (r | ⟨c, r⟩) | z
  · exact .inl (.inl (by rw [upd_ne (ne_of r hb (fun z => h1 _ z.symm))]; exact r))
  · exact .inl (.inr ⟨c, by rw [upd_ne (ne_of r hb (fun z => h2 _ _ z.symm))]; exact r⟩)
  · exact .inr z
/-! ### tables -/
theorem krc : ¬ (("columns" : Str) = "rows") := by decide +kernel
def fldsT (ct rt : Addr) : List (Str × V) := putF "rows" (.ref rt) (putF "columns" (.ref ct) [])
theorem fldsT_columns (ct rt : Addr) : (fldsT ct rt).lookup ("columns" : Str) = some (.ref ct) := by
  unfold fldsT; rw [lookup_putF, if_neg krc, lookup_putF, if_pos rfl]
theorem fldsT_rows (ct rt : Addr) : (fldsT ct rt).lookup ("rows" : Str) = some (.ref rt) := by
  unfold fldsT; rw [lookup_putF, if_pos rfl]
/-- at ts stand the lists (or tuples) of texts rs -/
structure Lss (f : List V → HO) (H : Hp) (ts : List Addr) (rs : List (List Str)) : Prop where
  len : ts.length = rs.length
  at_ : ∀ (i : Nat) (t : Addr) (r : List Str), ts[i]? = some t → rs[i]? = some r → H t = some (f (sv r))
theorem Lss.same {f : List V → HO} {H H' : Hp} {ts : List Addr} {rs : List (List Str)} (h : Lss f H ts rs) (e : Same H H') : Lss f H' ts rs := ⟨h.len, fun i t x a b => e _ _ (h.at_ i t x a b)⟩
theorem Lss.nil {f : List V → HO} {H : Hp} : Lss f H [] [] := ⟨rfl, fun i t x h => by simp at h⟩
theorem Lss.app {f : List V → HO} {H : Hp} {ts : List Addr} {rs : List (List Str)} {t : Addr} {r : List Str} (h : Lss f H ts rs) (ht : H t = some (f (sv r))) : Lss f H (ts ++ [t]) (rs ++ [r]) := by
  refine ⟨by rw [List.length_append, List.length_append, h.len]; rfl, fun i u y a b => ?_⟩
  rcases Nat.lt_trichotomy i ts.length with c | c | c
  · rw [List.getElem?_append_left c] at a
    rw [List.getElem?_append_left (by rw [← h.len]; exact c)] at b
    exact h.at_ i u y a b
  · rw [c, List.getElem?_append_right (Nat.le_refl _), Nat.sub_self] at a
    rw [c, h.len, List.getElem?_append_right (Nat.le_refl _), Nat.sub_self] at b
    cases a; cases b; exact ht
  · rw [List.getElem?_append_right (by omega), List.getElem?_eq_none (by simp; omega)] at a
    cases a
theorem Lss.get {f : List V → HO} {H : Hp} {ts : List Addr} {rs : List (List Str)} (h : Lss f H ts rs) {i : Nat} {t : Addr} (hi : ts[i]? = some t) : ∃ r, rs[i]? = some r ∧ H t = some (f (sv r)) := by
  have hx : i < rs.length := by rw [← h.len]; exact (List.getElem?_eq_some_iff.mp hi).1
  exact ⟨rs[i], List.getElem?_eq_getElem hx, h.at_ i _ _ hi (List.getElem?_eq_getElem hx)⟩
theorem refs_get {ts : List Addr} {i : Nat} {v : V} (h : (ts.map V.ref)[i]? = some v) : ∃ t, ts[i]? = some t ∧ v = .ref t := by
  rw [List.getElem?_map] at h
  cases e : ts[i]? with
  | none => rw [e] at h; cases h
  | some t => rw [e] at h; exact ⟨t, rfl, (Option.some.inj h).symm⟩
/-- the row in the columns' sequence -/
def canon (cs r : List Str) : List Str := cs.filter fun x => decide (x ∈ r)
theorem canon_T {l r : List Str} {z : Str} (hm : z ∈ r) : canon (l ++ [z]) r = canon l r ++ [z] := by
  unfold canon; rw [List.filter_append]; simp [hm]
theorem canon_F {l r : List Str} {z : Str} (hm : z ∉ r) : canon (l ++ [z]) r = canon l r := by
  unfold canon; rw [List.filter_append]; simp [hm]
theorem Lss.updT {H : Hp} {ts : List Addr} {rs : List (List Str)} {l : Addr} {u o : HO} (h : Lss .tup H ts rs) (hl : H l = some u) (hu : ∀ xs, u ≠ .tup xs) : Lss .tup (upd H l o) ts rs := ⟨h.len, fun i t x a b => by
  have := h.at_ i t x a b
  rw [upd_ne (ne_of this hl (fun z => hu _ z.symm))]
  exact this⟩
/-- the table with the columns cs and the rows rs stands at p -/
def Tb (C : Addr) (H : Hp) (p : Addr) (cs : List Str) (rs : List (List Str)) : Prop :=
  ∃ dx ct rt ts, H p = some (.ins C dx (fldsT ct rt)) ∧ H ct = some (.tup (sv cs)) ∧ H rt = some (.tup (ts.map V.ref)) ∧ Lss .tup H ts (rs.map (canon cs))
theorem Tb.same {C : Addr} {H H' : Hp} {p : Addr} {cs : List Str} {rs : List (List Str)} (h : Tb C H p cs rs) (e : Same H H') : Tb C H' p cs rs :=
  let ⟨dx, ct, rt, ts, h1, h2, h3, h4⟩ := h; ⟨dx, ct, rt, ts, e _ _ h1, e _ _ h2, e _ _ h3, h4.same e⟩
section
variable {P : Program} {w : World} {K : PySem.W.Frag} {mg : Str → Option Value} {base : Heap} {A : Ad}
def spCheck (C : Addr) (sq2 : Hp → Addr → List V → Prop) : Sp := fun vs H Q _ => ∃ p l cs rs ns, vs = [.ref p, .ref l] ∧ Tb C H p cs rs ∧ sq2 H l (sv ns) ∧ ns.length ≤ 1000 ∧ fault cs ns = none ∧ ∀ H', Same H H' → Q .non H'
theorem ok_check (T : Txt P K mg A) : FnOk P w K mg base CX0 3 A.a_check_order A.d_check_order ["table", "order"] (spCheck A.C_Table (SqL K)) := by
  have G_order_fault := ok_fault (P := P) (w := w) (base := base) T
  refine T.F_check_order.ok sc_check_order (fun vs H Q E h => ?_) (fun cdv A' outer s H vs Q E hr h => ?_)
  · obtain ⟨p, l, cs, rs, ns, rfl, _⟩ := h
    rfl
  · obtain ⟨p, l, cs, rs, ns, rfl, ht, h2, hl, hf, k⟩ := h
    obtain ⟨dx, ct, rt, ts, h1, hc, _, _⟩ := ht
    refine ⟨_, (pss_cons (ps_set (i := 2) sc_check_order.nd rfl (Or.inl rfl) (pe_call G_order_fault (hr.mono (by decide)) rfl T.mg_order_fault T.F_order_fault.kp T.b_order_fault .nil pass0 (pa_cons (pe_fld (pv 0) rfl) (pa_cons (pv 1) pa_nil))))
      (pss_one (ps_if (pt_cmpR op_notN (pv 2) pe_non (nomark _)) (pss_one ps_never) pss_nil))), ?_⟩
    refine ⟨_, rfl, _, _, _, _, _, rfl, h1, T.cl_Table, T.n_Table_columns, fldsT_columns _ _, _, rfl, ct, l, cs, ns, rfl, SqT.of hc, h2, hl, fun H2 sm => ?_⟩
    rw [hf]
    refine ⟨_, rfl, rfl, _, rfl, itNe rfl ?_⟩
    exact k _ sm
theorem ok_checkT (T : Txt P K mg A) : FnOk P w K mg base CX0 3 A.a_check_order A.d_check_order ["table", "order"] (spCheck A.C_Table (SqT K)) := by
  have G_order_faultT := ok_faultT (P := P) (w := w) (base := base) T
  refine T.F_check_order.ok sc_check_order (fun vs H Q E h => ?_) (fun cdv A' outer s H vs Q E hr h => ?_)
  · obtain ⟨p, l, cs, rs, ns, rfl, _⟩ := h
    rfl
  · obtain ⟨p, l, cs, rs, ns, rfl, ht, h2, hl, hf, k⟩ := h
    obtain ⟨dx, ct, rt, ts, h1, hc, _, _⟩ := ht
    refine ⟨_, (pss_cons (ps_set (i := 2) sc_check_order.nd rfl (Or.inl rfl) (pe_call G_order_faultT (hr.mono (by decide)) rfl T.mg_order_fault T.F_order_fault.kp T.b_order_fault .nil pass0 (pa_cons (pe_fld (pv 0) rfl) (pa_cons (pv 1) pa_nil))))
      (pss_one (ps_if (pt_cmpR op_notN (pv 2) pe_non (nomark _)) (pss_one ps_never) pss_nil))), ?_⟩
    refine ⟨_, rfl, _, _, _, _, _, rfl, h1, T.cl_Table, T.n_Table_columns, fldsT_columns _ _, _, rfl, ct, l, cs, ns, rfl, SqT.of hc, h2, hl, fun H2 sm => ?_⟩
    rw [hf]
    refine ⟨_, rfl, rfl, _, rfl, itNe rfl ?_⟩
    exact k _ sm
theorem exc_same {H : Hp} {a d : Addr} {o1 o2 o3 o4 : HO} (ha : H a = none) (hd : H d = none) : Same H (upd (L2.del (upd (upd (upd H a o1) d o2) a o3) a) d o4) := fun b o e => by
  rw [upd_ne (ne_of_none e hd), L2.del_ne (ne_of_none e ha), upd_ne (ne_of_none e ha), upd_ne (ne_of_none e hd), upd_ne (ne_of_none e ha)]
  exact e
/-- a list that is no order: BadOrder with the index -/
def spCheckX (K : PySem.W.Frag) (C B : Addr) : Sp := fun vs H Q E => ∃ p l cs rs ns i, vs = [.ref p, .ref l] ∧ Tb C H p cs rs ∧ SqL K H l (sv ns) ∧ ns.length ≤ 1000 ∧ fault cs ns = some i ∧
  ∀ d H', Same H H' → H' d = some (.xd [("index", .int (i : Nat))]) → E (.ref B) (some d) H'
theorem fault_lt {cs ns : List Str} {i : Nat} (h : fault cs ns = some i) : i ≤ ns.length := by
  unfold fault at h
  cases hs : stray cs ns with
  | some j =>
    rw [hs] at h
    cases h
    unfold stray at hs
    rw [List.find?_range_eq_some] at hs
    exact Nat.le_of_lt (List.mem_range.mp hs.2.1)
  | none =>
    rw [hs] at h
    have h : (if ns.length < cs.length then some ns.length else none) = some i := h
    split at h
    · cases h; exact Nat.le_refl _
    · cases h
theorem ok_checkX (T : Txt P K mg A) : FnOk P w K mg base (L2.CX P w) 3 A.a_check_order A.d_check_order ["table", "order"] (spCheckX K A.C_Table A.C_BadOrder) := by
  have G_order_fault := ok_fault (P := P) (w := w) (base := base) T
  have G_BadOrder_init := ok_BadOrder (P := P) (w := w) (base := base) T
  refine funX T.F_check_order sc_check_order (fun vs H Q E h => ?_) (fun cdv A' outer s H vs Q E hr h => ?_)
  · obtain ⟨p, l, cs, rs, ns, i, rfl, _⟩ := h
    rfl
  · obtain ⟨p, l, cs, rs, ns, i, rfl, ht, h2, hl, hf, k⟩ := h
    obtain ⟨dx, ct, rt, ts, h1, hc, _, _⟩ := ht
    refine ⟨_, (pss_cons (ps_set (i := 2) sc_check_order.nd rfl (Or.inl rfl) (pe_call G_order_fault (hr.mono (by decide)) rfl T.mg_order_fault T.F_order_fault.kp T.b_order_fault .nil pass0 (pa_cons (pe_fld (pv 0) rfl) (pa_cons (pv 1) pa_nil))))
      (pss_one (ps_if (pt_cmpR op_notN (pv 2) pe_non (nomark _)) (pss_one (ps_raise rfl (takes_of rfl rfl rfl rfl) (pmk_oex T.SC_BadOrder.ox T.ii_BadOrder T.ti_BadOrder G_BadOrder_init (hr.mono (by decide)) T.b_BadOrder_init .nil pass0 rfl T.mg_BadOrder (pa_cons (pv 2) pa_nil)))) pss_nil))), ?_⟩
    refine ⟨_, rfl, _, _, _, _, _, rfl, h1, T.cl_Table, T.n_Table_columns, fldsT_columns _ _, _, rfl, ct, l, cs, ns, rfl, SqT.of hc, h2, hl, fun H2 sm => ?_⟩
    rw [hf]
    have hi := fault_lt hf
    refine ⟨_, rfl, rfl, _, rfl, itNeN (fun z => nomatch z) ⟨_, rfl, (by decide : 1 ≤ 1000), fun a ha => ⟨a, _, rfl, ⟨_, rfl, by rw [Int.natAbs_natCast]; omega⟩, upd_same, fun d hd hne => ⟨rfl, d, _, upd_same, by rw [upd_ne hne, upd_same], by rw [upd_ne hne] at hd; exact hd, ?_⟩⟩⟩⟩
    rw [upd_ne hne] at hd
    exact k d _ (sm.trans (exc_same ha hd)) upd_same
/-! ### Table(..) -/
def spCols (K : PySem.W.Frag) : Sp := fun vs H Q _ => ∃ l cs, vs = [.ref l] ∧ SqL K H l (sv cs) ∧ (∀ z ∈ cs, Good z) ∧ cs.Nodup ∧ cs.length ≤ 12 ∧ ∀ H', Same H H' → Q .non H'
theorem ok_cols (T : Txt P K mg A) : FnOk P w K mg base CX0 3 A.a_check_columns A.d_check_columns ["columns"] (spCols K) := by
  have G_first_bad_name := ok_firstBad (P := P) (w := w) (base := base) T
  refine T.F_check_columns.ok sc_check_columns (fun vs H Q E h => ?_) (fun cdv A' outer s H vs Q E hr h => ?_)
  · obtain ⟨l, cs, rfl, _⟩ := h
    rfl
  · obtain ⟨l, cs, rfl, h1, g, nd, hl, k⟩ := h
    refine ⟨_, (pss_cons (ps_if (pt_cmpR op_gt (pe_callB call_len_seq (by rfl) T.n_len (by decide +kernel) (pa_cons (pv 0) pa_nil)) (ClX.pe_cval (pe_glob (v := .ref A.C_Table) rfl T.mg_Table rfl)) (nomark _)) (pss_one ps_never) pss_nil)
      (pss_cons (ps_set (i := 1) sc_check_columns.nd rfl (Or.inl rfl) (pe_call G_first_bad_name (hr.mono (by decide)) rfl T.mg_first_bad_name T.F_first_bad_name.kp T.b_first_bad_name .nil pass0 (pa_cons (pv 0) pa_nil)))
      (pss_one (ps_if (pt_cmpR op_notN (pv 1) pe_non (nomark _)) (pss_one ps_never) pss_nil)))), ?_⟩
    obtain ⟨u, hu⟩ := T.cv_Table_MOST_COLUMNS
    refine ⟨_, rfl, l, _, rfl, .inl h1, _, _, _, _, rfl, T.cr_Table, hu, _, _, rfl, rfl, _, rfl, itN (by rw [len_sv]; omega) ?_⟩
    exact ⟨_, rfl, l, cs, rfl, h1, g, nd, by omega, fun H2 sm => ⟨_, rfl, rfl, _, rfl, itNe rfl (k _ sm)⟩⟩
def spChRows (K : PySem.W.Frag) : Sp := fun vs H Q _ => ∃ l r cs ts rs, vs = [.ref l, .ref r] ∧ SqL K H l (sv cs) ∧ SqL K H r (ts.map V.ref) ∧ Lss .lst H ts rs ∧ rs.length ≤ 48 ∧ (∀ x ∈ rs, stray cs x = none ∧ x.length ≤ 1000) ∧ ∀ H', Same H H' → Q .non H'
theorem ok_chRows (T : Txt P K mg A) : FnOk P w K mg base CX0 2 A.a_check_rows A.d_check_rows ["columns", "rows"] (spChRows K) := by
  have G_first_stray := ok_stray (P := P) (w := w) (base := base) T
  refine T.F_check_rows.ok sc_check_rows (fun vs H Q E h => ?_) (fun cdv A' outer s H vs Q E hr h => ?_)
  · obtain ⟨l, r, cs, ts, rs, rfl, _⟩ := h
    rfl
  · obtain ⟨l, r, cs, ts, rs, rfl, h1, h2, hs, hl, hg, k⟩ := h
    refine ⟨_, (pss_cons (ps_if (pt_cmpR op_gt (pe_callB call_len_seq (by rfl) T.n_len (by decide +kernel) (pa_cons (pv 1) pa_nil)) (ClX.pe_cval (pe_glob (v := .ref A.C_Table) rfl T.mg_Table rfl)) (nomark _)) (pss_one ps_never) pss_nil)
      (pss_one (ps_for PassesOwn.never rfl (pi_enum (by rfl) T.n_enumerate (pa_cons (pv 1) pa_nil)) (pg_tup (by rfl) (pgs_cons (pg_name (i := 2) sc_check_rows.nd rfl (Or.inl rfl)) (pgs_cons (pg_name (i := 3) sc_check_rows.nd rfl (Or.inl rfl)) pgs_nil)))
        (pss_one (ps_if (pt_cmpR op_notN (pe_call G_first_stray (hr.mono (by decide)) rfl T.mg_first_stray T.F_first_stray.kp T.b_first_stray .nil pass0 (pa_cons (pv 0) (pa_cons (pv 3) pa_nil))) pe_non (nomark _)) (pss_one ps_never) pss_nil))))), ?_⟩
    obtain ⟨u, hu⟩ := T.cv_Table_MOST_ROWS
    refine ⟨_, rfl, r, _, rfl, .inl h2, _, _, _, _, rfl, T.cr_Table, hu, _, _, rfl, rfl, _, rfl, itN (by rw [List.length_map, hs.len]; omega) ?_⟩
    refine ⟨_, rfl, r, _, rfl, h2, for_it walk_enum (fun i σ H2 => Same H H2 ∧ ∃ u1 u2 : Option V, σ = [some (.ref l), some (.ref r), u1, u2]) ⟨Same.refl _, none, none, rfl⟩ (fun i σ H2 _ p => p.1.seq h2) ?_ ?_⟩
    · rintro i x σ H2 H3 hi ⟨sm, u1, u2, rfl⟩ ⟨t, _, _, rfl, ht, rfl, ⟨⟩, hx⟩
      obtain ⟨b, hb, rfl⟩ := refs_get hx
      obtain ⟨y, hy, ho⟩ := hs.get hb
      have g := hg y (List.mem_of_getElem? hy)
      have s3 : Same H (upd H2 t (.tup [.int (i : Nat), .ref b])) := sm.trans (same_new ht)
      refine ⟨t, _, rfl, SqT.of upd_same, rfl, _, _, rfl, _, _, rfl, rfl, ?_⟩
      refine ⟨_, rfl, _, rfl, l, b, cs, y, rfl, s3.seq h1, SqL.of (s3 _ _ ho), g.2, fun H4 sm4 => ?_⟩
      rw [g.1]
      exact ⟨rfl, _, rfl, itNe rfl ⟨s3.trans sm4, _, _, rfl⟩⟩
    · rintro σ H2 ⟨sm, u1, u2, rfl⟩
      exact k H2 sm
def spInOrder (C : Addr) (K : PySem.W.Frag) : Sp := fun vs H Q _ => ∃ p l dx ct cs r fs, vs = [.ref p, .ref l] ∧ H p = some (.ins C dx fs) ∧ fs.lookup ("columns" : Str) = some (.ref ct) ∧ H ct = some (.tup (sv cs)) ∧ SqL K H l (sv r) ∧ cs.length ≤ 1000 ∧
  ∀ t H', Same H H' → H' t = some (.tup (sv (canon cs r))) → Q (.ref t) H'
theorem ok_inOrder (T : Txt P K mg A) : FnOk P w K mg base CX0 1 A.a_Table_in_order A.d_Table_in_order ["self", "names"] (spInOrder A.C_Table K) := by
  refine T.F_Table_in_order.ok sc_Table_in_order (fun vs H Q E h => ?_) (fun cdv A' outer s H vs Q E hr h => ?_)
  · obtain ⟨p, l, dx, ct, cs, r, fs, rfl, _⟩ := h
    rfl
  · obtain ⟨p, l, dx, ct, cs, r, fs, rfl, h1, hct, hc, h2, hl, k⟩ := h
    refine ⟨_, (pss_one (ps_ret (pe_callTy call_tuple_of (by rfl) T.n_tuple (by decide +kernel) (pa_cons (pe_lc (own := [("name", 2)]) (g := gName 2) (tt := _) rfl sc_Table_in_order.nd (pi_tup (pe_fld (pv 0) rfl)) (blkOk_by (N := ["self", "names", "name"]) (sc := defScope s_Table_in_order) (by decide +kernel)) (fun _ _ _ _ _ => (pg_name (i := 2) sc_Table_in_order.nd rfl (Or.inl rfl))) (fun _ _ _ _ _ => (pts_one (pt_cmpR (show OpR _ _ (rIn K false) from op_in_seq) (pv 2) (pv 1) (by with_unfolding_all rfl)))) (fun _ _ _ _ _ => (pv 2))) pa_nil)))), ?_⟩
    have stepT : ∀ i z, cs[i]? = some z → z ∈ r → sv (canon (cs.take (i + 1)) r) = sv (canon (cs.take i) r) ++ [V.str z] := fun i z hz hm => by
      rw [take_succ hz, canon_T hm]; exact List.map_append
    have stepF : ∀ i z, cs[i]? = some z → z ∉ r → sv (canon (cs.take (i + 1)) r) = sv (canon (cs.take i) r) := fun i z hz hm => by
      rw [take_succ hz, canon_F hm]
    refine ⟨_, rfl, p, _, dx, fs, _, rfl, h1, T.cl_Table, T.n_Table_columns, hct, ct, rfl, ⟨_, SqT.of hc⟩, fun D hD => lc_it walk_tup (PvS H D fun i => sv (canon (cs.take i) r)) (pv0 hD rfl) (fun i H2 _ q => q.1.tup (SqT.of hc)) ?_ ?_⟩
    · rintro i x H3 H4 hi q ⟨rfl, hx⟩
      obtain ⟨z, hz, rfl⟩ := sv_get hx
      refine ⟨rfl, _, rfl, _, rfl, l, _, rfl, .inl (q.1.seq h2), rfl, flat_sv _, _, rfl, ?_⟩
      rw [if_neg Bool.false_ne_true, inV_str]
      have hlen : (sv (canon (cs.take i) r)).length ≤ 1000000 := by
        have := List.length_filter_le (fun x => decide (x ∈ r)) (cs.take i)
        rw [List.length_take] at this
        rw [len_sv]; unfold canon; omega
      by_cases hm : z ∈ r
      · exact ifT (decide_eq_true hm) ⟨_, rfl, q.push hD (stepT i z hz hm) hlen⟩
      · exact ifF (decide_eq_false hm) (q.skip (stepF i z hz hm))
    · rintro H3 ⟨sm, h3⟩
      have h3 : H3 D = some (.lst (sv (canon (cs.take (sv cs).length) r))) := h3
      rw [len_sv, List.take_length] at h3
      exact ⟨D, _, rfl, .inl ⟨SqL.of h3, fun t ht => k t _ (sm.trans (same_new ht)) upd_same⟩⟩
def spTable (C : Addr) (K : PySem.W.Frag) : Sp := fun vs H Q _ => ∃ p l r dx cs ts rs, vs = [.ref p, .ref l, .ref r] ∧ H p = some (.ins C dx []) ∧ SqL K H l (sv cs) ∧ SqL K H r (ts.map V.ref) ∧ Lss .lst H ts rs ∧
  (∀ z ∈ cs, Good z) ∧ cs.Nodup ∧ cs.length ≤ 12 ∧ rs.length ≤ 48 ∧ (∀ x ∈ rs, stray cs x = none ∧ x.length ≤ 1000) ∧ ∀ H', (∀ b o, b ≠ p → H b = some o → H' b = some o) → Tb C H' p cs rs → Q .non H'
theorem ok_table (T : Txt P K mg A) : FnOk P w K mg base CX0 4 A.a_Table_init A.d_Table_init ["self", "columns", "rows"] (spTable A.C_Table K) := by
  have G_check_columns := ok_cols (P := P) (w := w) (base := base) T
  have G_check_rows := ok_chRows (P := P) (w := w) (base := base) T
  have G_Table_in_order := ok_inOrder (P := P) (w := w) (base := base) T
  refine T.F_Table_init.ok sc_Table_init (fun vs H Q E h => ?_) (fun cdv A' outer s H vs Q E hr h => ?_)
  · obtain ⟨p, l, r, dx, cs, ts, rs, rfl, _⟩ := h
    rfl
  · obtain ⟨p, l, r, dx, cs, ts, rs, rfl, hp, h1, h2, hs, g, nd, hc, hrs, hst, k⟩ := h
    refine ⟨_, (pss_cons (ps_expr (pe_call G_check_columns (hr.mono (by decide)) rfl T.mg_check_columns T.F_check_columns.kp T.b_check_columns .nil pass0 (pa_cons (pv 1) pa_nil)))
      (pss_cons (ps_expr (pe_call G_check_rows (hr.mono (by decide)) rfl T.mg_check_rows T.F_check_rows.kp T.b_check_rows .nil pass0 (pa_cons (pv 1) (pa_cons (pv 2) pa_nil))))
      (pss_cons (ps_fld (pv 0) (pe_callTy call_tuple_of (by rfl) T.n_tuple (by decide +kernel) (pa_cons (pv 1) pa_nil)) rfl)
      (pss_one (ps_fld (pv 0) (pe_callTy call_tuple_of (by rfl) T.n_tuple (by decide +kernel) (pa_cons (pe_lc (own := [("row", 3)]) (g := gName 3) (tt := tYes) rfl sc_Table_init.nd (pi_list (pv 2)) (blkOk_by (N := ["self", "columns", "rows", "row"]) (sc := defScope s_Table_init) (by decide +kernel)) (fun _ _ _ _ _ => (pg_name (i := 3) sc_Table_init.nd rfl (Or.inl rfl))) (fun _ _ _ _ _ => pts_nil) (fun _ _ _ _ _ => (pe_meth (pv 0) T.cl_Table T.m_Table_in_order G_Table_in_order (hr.mono (by decide)) T.b_Table_in_order .nil pass0 (pa_cons (pv 3) pa_nil)))) pa_nil)) rfl))))), ?_⟩
    refine ⟨_, rfl, l, cs, rfl, h1, g, nd, hc, fun H1 s1 => ?_⟩
    refine ⟨_, rfl, _, rfl, l, r, cs, ts, rs, rfl, s1.seq h1, s1.seq h2, hs.same s1, hrs, hst, fun H2 s2 => ?_⟩
    have s2 := s1.trans s2
    refine ⟨_, rfl, l, _, rfl, .inl ⟨s2.seq h1, fun ct hct => ?_⟩⟩
    have hp2 : upd H2 ct (.tup (sv cs)) p = some (.ins A.C_Table dx []) := by rw [upd_ne (ne_of_none (s2 _ _ hp) hct)]; exact s2 _ _ hp
    refine ⟨_, rfl, p, _, dx, [], rfl, hp2, T.cl_Table, T.n_Table_columns, (by show 0 < 1000; decide), ?_⟩
    have npc : ct ≠ p := fun z => by rw [z] at hct; rw [s2 _ _ hp] at hct; cases hct
    generalize hX : upd (upd H2 ct _) p _ = H3
    have hp3 : H3 p = some (.ins A.C_Table dx (putF "columns" (.ref ct) [])) := by rw [← hX]; exact upd_same
    have hc3 : H3 ct = some (.tup (sv cs)) := by rw [← hX, upd_ne npc]; exact upd_same
    have sm3 : ∀ b o, b ≠ p → H b = some o → H3 b = some o := fun b o hb e => by
      rw [← hX, upd_ne hb, upd_ne (ne_of_none (s2 _ _ e) hct)]; exact s2 _ _ e
    have h23 : SqL K H3 r (ts.map V.ref) := by
      have := (s2.trans (same_new (o := .tup (sv cs)) hct)).seq h2
      rw [← hX]; exact seq_upd this hp2 (fun xs z => nomatch z) (fun o u z => nomatch z)
    have hs3 : Lss .lst H3 ts rs := ⟨hs.len, fun i t x a b => sm3 t _ (ne_of (hs.at_ i t x a b) hp (fun z => nomatch z)) (hs.at_ i t x a b)⟩
    clear hX hp2
    have hlk : (putF "columns" (.ref ct) ([] : List (Str × V))).lookup ("columns" : Str) = some (.ref ct) := by rw [lookup_putF, if_pos rfl]
    have hlm : (putF "columns" (.ref ct) ([] : List (Str × V))).lookup ("_in_order" : Str) = none := by rw [lookup_putF, if_neg (by decide +kernel)]; rfl
    refine ⟨_, rfl, r, rfl, ⟨_, h23⟩, fun D hD => lc_it walk_list (fun i H4 => Same H3 H4 ∧ ∃ us : List Addr, H4 D = some (.lst (us.map V.ref)) ∧ Lss .tup H4 us ((rs.take i).map (canon cs))) ⟨same_new hD, [], upd_same, Lss.nil⟩ (fun i H4 _ q => q.1.seq h23) ?_ ?_⟩
    · rintro i x H4 H5 hi ⟨s4, us, hd4, hl4⟩ ⟨rfl, hx⟩
      obtain ⟨b, hb, rfl⟩ := refs_get hx
      obtain ⟨y, hy, ho⟩ := (hs3.same s4).get hb
      refine ⟨rfl, _, rfl, p, dx, _, rfl, s4 _ _ hp3, hlm, _, rfl, p, b, dx, ct, cs, y, _, rfl, s4 _ _ hp3, hlk, s4 _ _ hc3, SqL.of ho, by omega, fun t H6 s6 ht => ?_⟩
      have hd6 := s6 _ _ hd4
      refine ⟨_, hd6, small_int (by rw [List.length_map, hl4.len, List.length_map, List.length_take]; omega), ?_, us ++ [t], ?_, ?_⟩
      · intro c o e
        rw [upd_ne (ne_of_none e hD)]
        exact s6 _ _ (s4 _ _ e)
      · rw [List.map_append]; exact upd_same
      · rw [take_succ hy, List.map_append]
        exact ((hl4.same s6).app ht).updT hd6 (fun xs z => nomatch z)
    · rintro H4 ⟨s4, us, hd4, hl4⟩
      rw [List.length_map, hs.len, List.take_length] at hl4
      refine ⟨D, _, rfl, .inl ⟨SqL.of hd4, fun rt hrt => ?_⟩⟩
      have hp5 : upd H4 rt (.tup (us.map V.ref)) p = some (.ins A.C_Table dx (putF "columns" (.ref ct) [])) := by rw [upd_ne (ne_of_none (s4 _ _ hp3) hrt)]; exact s4 _ _ hp3
      refine ⟨_, rfl, p, _, dx, _, rfl, hp5, T.cl_Table, T.n_Table_rows, (by show 1 < 1000; decide), ?_⟩
      have nrp : rt ≠ p := fun z => by rw [z] at hrt; rw [s4 _ _ hp3] at hrt; cases hrt
      have nrc : ct ≠ rt := ne_of_none (s4 _ _ hc3) hrt
      refine k _ (fun b o hb e => ?_) ⟨dx, ct, rt, us, upd_same, ?_, ?_, ?_⟩
      · have z := s4 _ _ (sm3 b o hb e)
        rw [upd_ne hb, upd_ne (ne_of_none z hrt)]
        exact z
      · rw [upd_ne npc, upd_ne nrc]; exact s4 _ _ hc3
      · rw [upd_ne nrp]; exact upd_same
      · exact (hl4.same (same_new (o := .tup (us.map V.ref)) hrt)).updT hp5 (fun xs z => nomatch z)
end
end My
set_option maxRecDepth 100000
set_option maxHeartbeats 4000000
namespace My
open PySem L2
theorem atR_of {us : List Addr} {i : Nat} {u : Addr} (h : us[i]? = some u) : atI (us.map V.ref) (i : Int) = some (V.ref u) := atI_nat (by rw [List.getElem?_map, h]; rfl)
theorem Lss.ex {f : List V → HO} {H : Hp} {us : List Addr} {ls : List (List Str)} (h : Lss f H us ls) {i : Nat} (hi : i < ls.length) : ∃ u w, us[i]? = some u ∧ ls[i]? = some w ∧ H u = some (f (sv w)) := by
  have hi' : i < us.length := by rw [h.len]; exact hi
  exact ⟨us[i], ls[i], List.getElem?_eq_getElem hi', List.getElem?_eq_getElem hi, h.at_ i _ _ (List.getElem?_eq_getElem hi') (List.getElem?_eq_getElem hi)⟩
/-- the runs of a row in an order -/
abbrev rn (ns cs r : List Str) : Nat := runs (flags ns (canon cs r))
/-- the numbers of the rows for which f says so -/
def nums (f : List Str → Bool) (rs : List (List Str)) : List Nat := (List.range rs.length).filter fun i => f (rs.getD i [])
theorem nums_le (f : List Str → Bool) (rs : List (List Str)) : (nums f rs).length ≤ rs.length := by
  have := List.length_filter_le (fun i => f (rs.getD i [])) (List.range rs.length)
  rw [List.length_range] at this
  exact this
theorem numsT {f : List Str → Bool} {rs : List (List Str)} {i : Nat} {r : List Str} (h : rs[i]? = some r) (hf : f r = true) : (((List.range (i + 1)).filter fun i => f (rs.getD i [])).map fun n => V.int (n : Nat)) = (((List.range i).filter fun i => f (rs.getD i [])).map fun n => V.int (n : Nat)) ++ [V.int (i : Nat)] := by
  have hd : rs.getD i [] = r := by rw [List.getD_eq_getElem?_getD, h]; rfl
  rw [List.range_succ, List.filter_append, List.map_append, List.filter_cons_of_pos (by rw [hd]; exact hf)]; rfl
theorem numsF {f : List Str → Bool} {rs : List (List Str)} {i : Nat} {r : List Str} (h : rs[i]? = some r) (hf : f r = false) : (((List.range (i + 1)).filter fun i => f (rs.getD i [])).map fun n => V.int (n : Nat)) = (((List.range i).filter fun i => f (rs.getD i [])).map fun n => V.int (n : Nat)) := by
  have hd : rs.getD i [] = r := by rw [List.getD_eq_getElem?_getD, h]; rfl
  rw [List.range_succ, List.filter_append, List.map_append, List.filter_cons_of_neg (by rw [hd, hf]; decide)]; simp
theorem nums_len (f : List Str → Bool) (rs : List (List Str)) (i : Nat) (hi : i ≤ 1000) : (((List.range i).filter fun i => f (rs.getD i [])).map fun n => V.int (n : Nat)).length ≤ 1000000 := by
  have := List.length_filter_le (fun i => f (rs.getD i [])) (List.range i)
  rw [List.length_range] at this
  rw [List.length_map]; omega
section
variable {P : Program} {w : World} {K : PySem.W.Frag} {mg : Str → Option Value} {base : Heap} {A : Ad}
def spGet (C : Addr) : Sp := fun vs H Q _ => ∃ p n cs rs, vs = [.ref p, .int (n : Nat)] ∧ Tb C H p cs rs ∧ n < rs.length ∧ ∀ t r, rs[n]? = some r → H t = some (.tup (sv (canon cs r))) → Q (.ref t) H
theorem ok_get (T : Txt P K mg A) : FnOk P w K mg base CX0 1 A.a_Table_getitem A.d_Table_getitem ["self", "at"] (spGet A.C_Table) := by
  refine T.F_Table_getitem.ok sc_Table_getitem (fun vs H Q E h => ?_) (fun cdv A' outer s H vs Q E hr h => ?_)
  · obtain ⟨p, n, cs, rs, rfl, _⟩ := h
    rfl
  · obtain ⟨p, n, cs, rs, rfl, hT, hn, k⟩ := h
    refine ⟨_, (pss_cons (ps_if (pt_not (pt_chain op_le op_lt pe_int (pv 1) (pe_callB call_len_seq (by rfl) T.n_len (by decide +kernel) (pa_cons (pe_fld (pv 0) rfl) pa_nil)))) (pss_one ps_never) pss_nil)
      (pss_one (ps_ret (pe_ix ix_tup (pe_fld (pv 0) rfl) (pv 1) (fun _ _ => rfl))))), ?_⟩
    obtain ⟨dx, ct, rt, ts, h1, hc, hr2, hts⟩ := hT
    have hn' : n < (rs.map (canon cs)).length := by rw [List.length_map]; exact hn
    obtain ⟨t, r2, et, er, ht⟩ := hts.ex hn'
    have hl : (ts.map V.ref).length = rs.length := by rw [List.length_map, hts.len, List.length_map]
    obtain ⟨r, hr3, rfl⟩ : ∃ r, rs[n]? = some r ∧ r2 = canon cs r := by
      rw [List.getElem?_map] at er
      cases e : rs[n]? with
      | none => rw [e] at er; cases er
      | some r => rw [e] at er; exact ⟨r, rfl, (Option.some.inj er).symm⟩
    refine ⟨_, rfl, _, _, rfl, rfl, _, rfl, itY (by omega) ⟨_, rfl, _, _, _, _, _, rfl, h1, T.cl_Table, T.n_Table_rows, fldsT_rows _ _, rt, _, rfl, .inr (SqT.of hr2), _, _, rfl, rfl, _, rfl, ifF (by rw [decide_eq_true (by rw [hl]; omega)]; rfl) ?_⟩⟩
    exact ⟨_, rfl, _, _, _, _, _, rfl, h1, T.cl_Table, T.n_Table_rows, fldsT_rows _ _, _, rfl, rt, _, _, _, rfl, rfl, SqT.of hr2, atR_of et, k t r hr3 ht⟩
def spGetX (C B : Addr) : Sp := fun vs H Q E => ∃ p i cs rs, vs = [.ref p, .int i] ∧ Tb C H p cs rs ∧ ¬ (0 ≤ i ∧ i < rs.length) ∧ i.natAbs < 1000000 ∧ ∀ d H', Same H H' → H' d = some (.xd [("number", .int i)]) → E (.ref B) (some d) H'
theorem ok_getX (T : Txt P K mg A) : FnOk P w K mg base (L2.CX P w) 3 A.a_Table_getitem A.d_Table_getitem ["self", "at"] (spGetX A.C_Table A.C_UnknownRow) := by
  have G_UnknownRow_init := ok_UnknownRow (P := P) (w := w) (base := base) T
  refine funX T.F_Table_getitem sc_Table_getitem (fun vs H Q E h => ?_) (fun cdv A' outer s H vs Q E hr h => ?_)
  · obtain ⟨p, i, cs, rs, rfl, _⟩ := h
    rfl
  · obtain ⟨p, i, cs, rs, rfl, hT, hn, hi, k⟩ := h
    refine ⟨_, (pss_cons (ps_if (pt_not (pt_chain op_le op_lt pe_int (pv 1) (pe_callB call_len_seq (by rfl) T.n_len (by decide +kernel) (pa_cons (pe_fld (pv 0) rfl) pa_nil)))) (pss_one (ps_raise rfl (takes_of rfl rfl rfl rfl) (pmk_oex T.SC_UnknownRow.ox T.ii_UnknownRow T.ti_UnknownRow G_UnknownRow_init (hr.mono (by decide)) T.b_UnknownRow_init .nil pass0 rfl T.mg_UnknownRow (pa_cons (pv 1) pa_nil)))) pss_nil)
      (pss_one (ps_ret (pe_ix ix_tup (pe_fld (pv 0) rfl) (pv 1) (fun _ _ => rfl))))), ?_⟩
    obtain ⟨dx, ct, rt, ts, h1, hc, hr2, hts⟩ := hT
    have hl : (ts.map V.ref).length = rs.length := by rw [List.length_map, hts.len, List.length_map]
    refine ⟨_, rfl, _, _, rfl, rfl, _, rfl, ?_⟩
    by_cases h0 : 0 ≤ i
    · refine itY h0 ⟨_, rfl, _, _, _, _, _, rfl, h1, T.cl_Table, T.n_Table_rows, fldsT_rows _ _, rt, _, rfl, .inr (SqT.of hr2), _, _, rfl, rfl, _, rfl, ifT (by rw [decide_eq_false (by rw [hl]; omega)]; rfl) ?_⟩
      refine ⟨_, rfl, (by decide : 1 ≤ 1000), fun a ha => ⟨a, _, rfl, ⟨_, rfl, hi⟩, upd_same, fun d hd hne => ⟨rfl, d, _, upd_same, by rw [upd_ne hne, upd_same], by rw [upd_ne hne] at hd; exact hd, ?_⟩⟩⟩
      rw [upd_ne hne] at hd
      exact k d _ (exc_same ha hd) upd_same
    · refine itN h0 ⟨_, rfl, ifT rfl ?_⟩
      refine ⟨_, rfl, (by decide : 1 ≤ 1000), fun a ha => ⟨a, _, rfl, ⟨_, rfl, hi⟩, upd_same, fun d hd hne => ⟨rfl, d, _, upd_same, by rw [upd_ne hne, upd_same], by rw [upd_ne hne] at hd; exact hd, ?_⟩⟩⟩
      rw [upd_ne hne] at hd
      exact k d _ (exc_same ha hd) upd_same
/-! ### run_count, broken, is_layout -/
def spRunC (C : Addr) (sq2 : Hp → Addr → List V → Prop) : Sp := fun vs H Q _ => ∃ p l n cs rs ns, vs = [.ref p, .ref l, .int (n : Nat)] ∧ Tb C H p cs rs ∧ sq2 H l (sv ns) ∧ ns.length ≤ 1000 ∧ fault cs ns = none ∧ n < rs.length ∧ ∀ H' r, rs[n]? = some r → Same H H' → Q (.int (rn ns cs r : Nat)) H'
theorem ok_runC (T : Txt P K mg A) : FnOk P w K mg base CX0 4 A.a_run_count A.d_run_count ["table", "order", "number"] (spRunC A.C_Table (SqL K)) := by
  have G_check_order := ok_check (P := P) (w := w) (base := base) T
  have G_runs_of := ok_runs (P := P) (w := w) (base := base) T
  have G_Table_getitem := ok_get (P := P) (w := w) (base := base) T
  refine T.F_run_count.ok sc_run_count (fun vs H Q E h => ?_) (fun cdv A' outer s H vs Q E hr h => ?_)
  · obtain ⟨p, l, n, cs, rs, ns, rfl, _⟩ := h
    rfl
  · obtain ⟨p, l, n, cs, rs, ns, rfl, hT, hO, hl, hf, hn, k⟩ := h
    refine ⟨_, (pss_cons (ps_expr (pe_call G_check_order (hr.mono (by decide)) rfl T.mg_check_order T.F_check_order.kp T.b_check_order .nil pass0 (pa_cons (pv 0) (pa_cons (pv 1) pa_nil))))
      (pss_one (ps_ret (pe_call G_runs_of (hr.mono (by decide)) rfl T.mg_runs_of T.F_runs_of.kp T.b_runs_of .nil pass0 (pa_cons (pe_ixOwn G_Table_getitem T.b_Table_getitem passS0 (hr.mono (by decide)) T.m_Table_getitem.at_ (fnIn_of T.F_Table_getitem) T.m_Table_getitem.fn (pv 0) (pv 2) (fun _ _ => by with_unfolding_all rfl)) (pa_cons (pv 1) pa_nil)))))), ?_⟩
    refine ⟨_, rfl, _, rfl, p, l, cs, rs, ns, rfl, hT, hO, hl, hf, fun H1 s1 => ?_⟩
    have hT1 := hT.same s1
    obtain ⟨dx, ct, rt, ts, h1, _⟩ := id hT1
    refine ⟨_, rfl, _, rfl, p, dx, _, rfl, h1, p, n, cs, rs, rfl, hT1, hn, fun t r hr3 ht => ?_⟩
    exact ⟨_, rfl, t, l, canon cs r, ns, rfl, SqT.of ht, s1.seq hO, hl, fun H2 s2 => k H2 r hr3 (s1.trans s2)⟩
theorem ok_runCT (T : Txt P K mg A) : FnOk P w K mg base CX0 4 A.a_run_count A.d_run_count ["table", "order", "number"] (spRunC A.C_Table (SqT K)) := by
  have G_check_orderT := ok_checkT (P := P) (w := w) (base := base) T
  have G_runs_ofT := ok_runsT (P := P) (w := w) (base := base) T
  have G_Table_getitem := ok_get (P := P) (w := w) (base := base) T
  refine T.F_run_count.ok sc_run_count (fun vs H Q E h => ?_) (fun cdv A' outer s H vs Q E hr h => ?_)
  · obtain ⟨p, l, n, cs, rs, ns, rfl, _⟩ := h
    rfl
  · obtain ⟨p, l, n, cs, rs, ns, rfl, hT, hO, hl, hf, hn, k⟩ := h
    refine ⟨_, (pss_cons (ps_expr (pe_call G_check_orderT (hr.mono (by decide)) rfl T.mg_check_order T.F_check_order.kp T.b_check_order .nil pass0 (pa_cons (pv 0) (pa_cons (pv 1) pa_nil))))
      (pss_one (ps_ret (pe_call G_runs_ofT (hr.mono (by decide)) rfl T.mg_runs_of T.F_runs_of.kp T.b_runs_of .nil pass0 (pa_cons (pe_ixOwn G_Table_getitem T.b_Table_getitem passS0 (hr.mono (by decide)) T.m_Table_getitem.at_ (fnIn_of T.F_Table_getitem) T.m_Table_getitem.fn (pv 0) (pv 2) (fun _ _ => by with_unfolding_all rfl)) (pa_cons (pv 1) pa_nil)))))), ?_⟩
    refine ⟨_, rfl, _, rfl, p, l, cs, rs, ns, rfl, hT, hO, hl, hf, fun H1 s1 => ?_⟩
    have hT1 := hT.same s1
    obtain ⟨dx, ct, rt, ts, h1, _⟩ := id hT1
    refine ⟨_, rfl, _, rfl, p, dx, _, rfl, h1, p, n, cs, rs, rfl, hT1, hn, fun t r hr3 ht => ?_⟩
    exact ⟨_, rfl, t, l, canon cs r, ns, rfl, SqT.of ht, s1.tup hO, hl, fun H2 s2 => k H2 r hr3 (s1.trans s2)⟩
def spRunX (K : PySem.W.Frag) (C B U : Addr) : Sp := fun vs H Q E => ∃ p l i cs rs ns, vs = [.ref p, .ref l, .int i] ∧ Tb C H p cs rs ∧ SqL K H l (sv ns) ∧ ns.length ≤ 1000 ∧
  ((∃ j, fault cs ns = some j ∧ ∀ d H', Same H H' → H' d = some (.xd [("index", .int (j : Nat))]) → E (.ref B) (some d) H') ∨
   (fault cs ns = none ∧ ¬ (0 ≤ i ∧ i < rs.length) ∧ i.natAbs < 1000000 ∧ ∀ d H', Same H H' → H' d = some (.xd [("number", .int i)]) → E (.ref U) (some d) H'))
/-- check_order, both ways -/
def spCheckZ (K : PySem.W.Frag) (C B : Addr) : Sp := fun vs H Q E => ∃ p l cs rs ns, vs = [.ref p, .ref l] ∧ Tb C H p cs rs ∧ SqL K H l (sv ns) ∧ ns.length ≤ 1000 ∧
  (∀ i, fault cs ns = some i → ∀ d H', Same H H' → H' d = some (.xd [("index", .int (i : Nat))]) → E (.ref B) (some d) H') ∧ (fault cs ns = none → ∀ H', Same H H' → Q .non H')
theorem ok_checkZ (T : Txt P K mg A) : FnOk P w K mg base (L2.CX P w) 3 A.a_check_order A.d_check_order ["table", "order"] (spCheckZ K A.C_Table A.C_BadOrder) := by
  have G_order_fault := ok_fault (P := P) (w := w) (base := base) T
  have G_BadOrder_init := ok_BadOrder (P := P) (w := w) (base := base) T
  refine funX T.F_check_order sc_check_order (fun vs H Q E h => ?_) (fun cdv A' outer s H vs Q E hr h => ?_)
  · obtain ⟨p, l, cs, rs, ns, rfl, _⟩ := h
    rfl
  · obtain ⟨p, l, cs, rs, ns, rfl, ht, h2, hl, k, kn⟩ := h
    obtain ⟨dx, ct, rt, ts, h1, hc, _, _⟩ := ht
    refine ⟨_, (pss_cons (ps_set (i := 2) sc_check_order.nd rfl (Or.inl rfl) (pe_call G_order_fault (hr.mono (by decide)) rfl T.mg_order_fault T.F_order_fault.kp T.b_order_fault .nil pass0 (pa_cons (pe_fld (pv 0) rfl) (pa_cons (pv 1) pa_nil))))
      (pss_one (ps_if (pt_cmpR op_notN (pv 2) pe_non (nomark _)) (pss_one (ps_raise rfl (takes_of rfl rfl rfl rfl) (pmk_oex T.SC_BadOrder.ox T.ii_BadOrder T.ti_BadOrder G_BadOrder_init (hr.mono (by decide)) T.b_BadOrder_init .nil pass0 rfl T.mg_BadOrder (pa_cons (pv 2) pa_nil)))) pss_nil))), ?_⟩
    refine ⟨_, rfl, _, _, _, _, _, rfl, h1, T.cl_Table, T.n_Table_columns, fldsT_columns _ _, _, rfl, ct, l, cs, ns, rfl, SqT.of hc, h2, hl, fun H2 sm => ?_⟩
    cases hf : fault cs ns with
    | none => exact ⟨_, rfl, rfl, _, rfl, itNe rfl (kn hf H2 sm)⟩
    | some i =>
      have hi := fault_lt hf
      refine ⟨_, rfl, rfl, _, rfl, itNeN (fun z => nomatch z) ⟨_, rfl, (by decide : 1 ≤ 1000), fun a ha => ⟨a, _, rfl, ⟨_, rfl, by rw [Int.natAbs_natCast]; omega⟩, upd_same, fun d hd hne => ⟨rfl, d, _, upd_same, by rw [upd_ne hne, upd_same], by rw [upd_ne hne] at hd; exact hd, ?_⟩⟩⟩⟩
      rw [upd_ne hne] at hd
      exact k i hf d _ (sm.trans (exc_same ha hd)) upd_same
theorem ok_runCX (T : Txt P K mg A) : FnOk P w K mg base (L2.CX P w) 5 A.a_run_count A.d_run_count ["table", "order", "number"] (spRunX K A.C_Table A.C_BadOrder A.C_UnknownRow) := by
  have GX_check_order := ok_checkZ (P := P) (w := w) (base := base) T
  have G_runs_of := ok_runs (P := P) (w := w) (base := base) T
  have GX_Table_getitem := ok_getX (P := P) (w := w) (base := base) T
  refine funX T.F_run_count sc_run_count (fun vs H Q E h => ?_) (fun cdv A' outer s H vs Q E hr h => ?_)
  · obtain ⟨p, l, i, cs, rs, ns, rfl, _⟩ := h
    rfl
  · obtain ⟨p, l, i, cs, rs, ns, rfl, hT, hO, hl, hk⟩ := h
    refine ⟨_, (pss_cons (ps_expr (pe_callS GX_check_order (hr.mono (by decide)) rfl T.mg_check_order T.F_check_order.kp T.b_check_order (fun σ => passAt (takes_of rfl rfl rfl rfl) σ) (pa_cons (pv 0) (pa_cons (pv 1) pa_nil))))
      (pss_one (ps_ret (pe_call G_runs_of (hr.mono (by decide)) rfl T.mg_runs_of T.F_runs_of.kp T.b_runs_of .nil pass0 (pa_cons (pe_ixOwn GX_Table_getitem T.b_Table_getitem (fun σ => passAt (takes_of rfl rfl rfl rfl) σ) (hr.mono (by decide)) T.m_Table_getitem.at_ (fnIn_of T.F_Table_getitem) T.m_Table_getitem.fn (pv 0) (pv 2) (fun _ _ => by with_unfolding_all rfl)) (pa_cons (pv 1) pa_nil)))))), ?_⟩
    refine ⟨_, rfl, _, rfl, p, l, cs, rs, ns, rfl, hT, hO, hl, fun j hj d H' s' hd => ?_, fun hf H1 s1 => ?_⟩
    · rcases hk with ⟨j', hj', k⟩ | ⟨hn, _⟩
      · rw [hj] at hj'; cases hj'; exact k d H' s' hd
      · rw [hj] at hn; cases hn
    · rcases hk with ⟨j', hj', k⟩ | ⟨_, hout, hi, k⟩
      · rw [hf] at hj'; cases hj'
      · have hT1 := hT.same s1
        obtain ⟨dx, ct, rt, ts, h1, _⟩ := id hT1
        exact ⟨_, rfl, _, rfl, p, dx, _, rfl, h1, p, i, cs, rs, rfl, hT1, hout, hi, fun d H' s' hd => k d H' (s1.trans s') hd⟩
end
end My
set_option maxRecDepth 100000
set_option maxHeartbeats 4000000
namespace My
open PySem L2 PySem.W
theorem none_of {H H' : Hp} (s : Same H H') {a : Addr} (h : H' a = none) : H a = none := by
  cases e : H a with
  | none => rfl
  | some o => rw [s _ _ e] at h; cases h
abbrev iv (b : List Int) : List V := b.map V.int
theorem dp_ints {K : PySem.W.Frag} {H : Hp} : ∀ b : List Int, DpAll K H (iv b) (b.map .int)
  | [] => .nil
  | i :: r => .cons (.int i) (dp_ints r)
abbrev ni (ns : List Nat) : List Int := ns.map fun n : Nat => (n : Int)
theorem ni_iv (ns : List Nat) : iv (ni ns) = ns.map fun n => V.int (n : Nat) := by show (ns.map _).map _ = _; rw [List.map_map]; rfl
/-- at ts stand the lists (or tuples) of ints bs -/
def Lsi (f : List V → HO) (H : Hp) (xs : List V) (bs : List (List Int)) : Prop := EachIs (fun x b => ∃ t, x = V.ref t ∧ H t = some (f (iv b))) xs bs
theorem Lsi.same {f : List V → HO} {H H' : Hp} {xs : List V} {bs : List (List Int)} (h : Lsi f H xs bs) (e : Same H H') : Lsi f H' xs bs := h.mono fun _ _ ⟨t, a, b⟩ => ⟨t, a, e _ _ b⟩
theorem Lsi.app {f : List V → HO} {H : Hp} : ∀ {xs : List V} {bs : List (List Int)} {t : Addr} {b : List Int}, Lsi f H xs bs → H t = some (f (iv b)) → Lsi f H (xs ++ [.ref t]) (bs ++ [b])
  | _, _, _, _, .nil, h => .cons ⟨_, rfl, h⟩ .nil
  | _, _, _, _, .cons a e, h => .cons a (Lsi.app e h)
theorem Lsi.get {f : List V → HO} {H : Hp} {xs : List V} {bs : List (List Int)} {i : Nat} (h : Lsi f H xs bs) (hi : i < bs.length) : ∃ t b, xs[i]? = some (V.ref t) ∧ bs[i]? = some b ∧ H t = some (f (iv b)) := by
  unfold Lsi at h
  induction h generalizing i with
  | nil => exact absurd hi (Nat.not_lt_zero _)
  | cons a e ih =>
    cases i with
    | zero => obtain ⟨t, e1, ht⟩ := a; exact ⟨t, _, by rw [e1]; rfl, rfl, ht⟩
    | succ i => exact ih (Nat.lt_of_succ_lt_succ hi)
/-- a comprehension's list of new lists or tuples of ints -/
def LcI (f : List V → HO) (H1 : Hp) (D : Addr) (bs : List (List Int)) (H : Hp) : Prop := Same H1 H ∧ ∃ xs : List V, H D = some (.lst xs) ∧ EachIs (fun x b => ∃ t, x = V.ref t ∧ H t = some (f (iv b)) ∧ t ≠ D) xs bs
theorem lci0 {f : List V → HO} {H1 : Hp} {D : Addr} (hD : H1 D = none) : LcI f H1 D [] (upd H1 D (.lst [])) := ⟨same_new hD, [], upd_same, .nil⟩
theorem each_app {α β : Type} {R : α → β → Prop} : ∀ {xs : List α} {bs : List β} {x : α} {b : β}, EachIs R xs bs → R x b → EachIs R (xs ++ [x]) (bs ++ [b])
  | _, _, _, _, .nil, h => .cons h .nil
  | _, _, _, _, .cons a e, h => .cons a (each_app e h)
theorem LcI.push {f : List V → HO} {H1 H H' : Hp} {D a : Addr} {bs : List (List Int)} {b : List Int} (q : LcI f H1 D bs H) (hD : H1 D = none) (s : Same H H') (ha : H' a = some (f (iv b))) (hne : a ≠ D) (hl : bs.length ≤ 1000000) :
    ∃ acc, H' D = some (.lst acc) ∧ acc.length < sizeLine ∧ LcI f H1 D (bs ++ [b]) (upd H' D (.lst (acc ++ [.ref a]))) := by
  obtain ⟨sm, xs, hd, hx⟩ := q
  refine ⟨xs, s _ _ hd, Nat.lt_of_le_of_lt (by rw [hx.length]; exact hl) (by decide), fun b' o e => ?_, xs ++ [.ref a], upd_same, each_app (hx.mono fun x b ⟨t, e, h, n⟩ => ⟨t, e, by rw [upd_ne n]; exact s _ _ h, n⟩) ⟨a, rfl, by rw [upd_ne hne]; exact ha, hne⟩⟩
  rw [upd_ne (ne_of_none e hD)]; exact s _ _ (sm _ _ e)
theorem LcI.fin {f : List V → HO} {H1 H : Hp} {D : Addr} {bs : List (List Int)} (q : LcI f H1 D bs H) : ∃ xs, H D = some (.lst xs) ∧ Lsi f H xs bs := by
  obtain ⟨_, xs, h, e⟩ := q
  exact ⟨xs, h, e.mono fun _ _ ⟨t, a, b, _⟩ => ⟨t, a, b⟩⟩
/-- the rows that have both columns -/
def both (cs : List Str) (one other : Str) (r : List Str) : Bool := decide (one ∈ canon cs r) && decide (other ∈ canon cs r)
def gap (cs : List Str) (rs : List (List Str)) (ns : List Str) (i : Nat) : List Int := ni (nums (both cs (ns.getD i Str.empty) (ns.getD (i + 1) Str.empty)) rs)
def gaps (cs : List Str) (rs : List (List Str)) (ns : List Str) : List (List Int) := (List.range (ns.length - 1)).map (gap cs rs ns)
def gapS (cs : List Str) (rs : List (List Str)) (ns : List Str) : List (List Int) := (gaps cs rs ns).mergeSort fun p q => decide (p ≤ q)
def exts (fl : List Bool) : List Nat := (List.range fl.length).filter fun i => fl.getD i false
section
variable {P : Program} {w : World} {K : PySem.W.Frag} {mg : Str → Option Value} {base : Heap} {A : Ad}
def spBroken (C : Addr) (sq2 : Hp → Addr → List V → Prop) : Sp := fun vs H Q _ => ∃ p l cs rs ns, vs = [.ref p, .ref l] ∧ Tb C H p cs rs ∧ sq2 H l (sv ns) ∧ ns.length ≤ 1000 ∧ fault cs ns = none ∧ rs.length ≤ 1000 ∧ ∀ q H', Same H H' → H q = none → H' q = some (.lst ((nums (fun r => decide (1 < rn ns cs r)) rs).map fun n => V.int (n : Nat))) → Q (.ref q) H'
def spLay (C : Addr) (sq2 : Hp → Addr → List V → Prop) : Sp := fun vs H Q _ => ∃ p l cs rs ns, vs = [.ref p, .ref l] ∧ Tb C H p cs rs ∧ sq2 H l (sv ns) ∧ ns.length ≤ 1000 ∧ rs.length ≤ 1000 ∧ ∀ H', Same H H' → Q (.bl (decide (fault cs ns = none) && decide ((nums (fun r => decide (1 < rn ns cs r)) rs).length = 0))) H'
def spExt (C : Addr) (sq2 : Hp → Addr → List V → Prop) : Sp := fun vs H Q _ => ∃ p l n cs rs ns, vs = [.ref p, .ref l, .int (n : Nat)] ∧ Tb C H p cs rs ∧ sq2 H l (sv ns) ∧ ns.length ≤ 1000 ∧ fault cs ns = none ∧ n < rs.length ∧ ∀ r, rs[n]? = some r → 
  (exts (flags ns (canon cs r)) = [] → ∀ H', Same H H' → Q .non H') ∧ (∀ i t j, exts (flags ns (canon cs r)) = i :: t → (i :: t).getLast? = some j → ∀ q H', Same H H' → H' q = some (.tup [.int (i : Nat), .int (j : Nat)]) → Q (.ref q) H')
theorem last_at {xs : List V} {v : V} (h : xs.getLast? = some v) : atI xs (-1) = some v := by
  obtain ⟨ys, rfl⟩ := List.getLast?_eq_some_iff.mp h
  exact atI_last ys v
theorem ok_broken (T : Txt P K mg A) : FnOk P w K mg base CX0 4 A.a_broken A.d_broken ["table", "order"] (spBroken A.C_Table (SqL K)) := by
  have G_check_order := ok_check (P := P) (w := w) (base := base) T
  have G_runs_of := ok_runs (P := P) (w := w) (base := base) T
  refine T.F_broken.ok sc_broken (fun vs H Q E h => ?_) (fun cdv A' outer s H vs Q E hr h => ?_)
  · obtain ⟨p, l, cs, rs, ns, rfl, _⟩ := h
    rfl
  · obtain ⟨p, l, cs, rs, ns, rfl, hT, hO, hl, hf, hrl, k⟩ := h
    refine ⟨_, (pss_cons (ps_expr (pe_call G_check_order (hr.mono (by decide)) rfl T.mg_check_order T.F_check_order.kp T.b_check_order .nil pass0 (pa_cons (pv 0) (pa_cons (pv 1) pa_nil))))
      (pss_one (ps_ret (pe_lc (own := [("number", 2), ("row", 3)]) (g := gTup K 2 (gCons (gName 2) (gCons (gName 3) gNil))) (tt := _) rfl sc_broken.nd (pi_enumT (by rfl) T.n_enumerate (pa_cons (pe_fld (pv 0) rfl) pa_nil)) (blkOk_by (N := ["table", "order", "number", "row"]) (sc := defScope s_broken) (by decide +kernel)) (fun _ _ _ _ _ => (pg_tup (by rfl) (pgs_cons (pg_name (i := 2) sc_broken.nd rfl (Or.inl rfl)) (pgs_cons (pg_name (i := 3) sc_broken.nd rfl (Or.inl rfl)) pgs_nil)))) (fun _ _ _ _ _ => (pts_one (pt_cmpR op_gt (pe_call G_runs_of (hr.mono (by decide)) rfl T.mg_runs_of T.F_runs_of.kp T.b_runs_of .nil pass0 (pa_cons (pv 3) (pa_cons (pv 1) pa_nil))) pe_int (nomark _)))) (fun _ _ _ _ _ => (pv 2)))))), ?_⟩
    refine ⟨_, rfl, _, rfl, p, l, cs, rs, ns, rfl, hT, hO, hl, hf, fun H1 s1 => ?_⟩
    obtain ⟨dx, ct, rt, ts, h1, hc, hr2, hts⟩ := hT.same s1
    have hO1 := s1.seq hO
    have hlen : (ts.map V.ref).length = rs.length := by rw [List.length_map, hts.len, List.length_map]
    refine ⟨_, rfl, _, _, _, _, _, rfl, h1, T.cl_Table, T.n_Table_rows, fldsT_rows _ _, rt, _, rfl, SqT.of hr2, fun D hD => lc_it walk_enumT (PvS H1 D fun i => ((List.range i).filter fun i => (fun r => decide (1 < rn ns cs r)) (rs.getD i [])).map fun n => V.int (n : Nat)) (pv0 hD rfl) (fun i H2 _ p => p.1.tup (SqT.of hr2)) ?_ ?_⟩
    · rintro i x H3 H4 hi q ⟨t, _, _, rfl, ht, rfl, ⟨⟩, hx⟩
      have hi' : i < rs.length := by rw [hlen] at hi; exact hi
      obtain ⟨b, hb, rfl⟩ := refs_get hx
      obtain ⟨y, hy, ho8⟩ := (hts.same q.1).get hb
      obtain ⟨r, hr3, rfl⟩ : ∃ r, rs[i]? = some r ∧ y = canon cs r := by
        rw [List.getElem?_map] at hy
        cases e : rs[i]? with
        | none => rw [e] at hy; cases hy
        | some r => rw [e] at hy; exact ⟨r, rfl, (Option.some.inj hy).symm⟩
      have p' := q.more (same_new (o := .tup [.int (i : Nat), .ref b]) ht)
      refine ⟨t, _, rfl, SqT.of upd_same, rfl, _, _, rfl, _, _, rfl, rfl, rfl, ?_⟩
      refine ⟨_, rfl, _, rfl, b, l, canon cs r, ns, rfl, SqT.of (same_new ht _ _ ho8), p'.1.seq hO1, hl, fun H5 s5 => ⟨_, _, rfl, rfl, _, rfl, ?_⟩⟩
      have p5 := p'.more s5
      by_cases h1 : 1 < runs (flags ns (canon cs r))
      · refine itY (by omega) ⟨_, rfl, p5.push hD (numsT (f := fun r => decide (1 < rn ns cs r)) hr3 (decide_eq_true h1)) (nums_len (fun r => decide (1 < rn ns cs r)) _ i (by omega))⟩
      · exact itN (by omega) (p5.skip (numsF (f := fun r => decide (1 < rn ns cs r)) hr3 (decide_eq_false h1)))
    · rintro H3 ⟨sm, h3⟩
      rw [hlen] at h3
      exact k D H3 (s1.trans sm) (none_of s1 hD) h3
theorem ok_lay (T : Txt P K mg A) : FnOk P w K mg base CX0 5 A.a_is_layout A.d_is_layout ["table", "order"] (spLay A.C_Table (SqL K)) := by
  have G_order_fault := ok_fault (P := P) (w := w) (base := base) T
  have G_broken := ok_broken (P := P) (w := w) (base := base) T
  refine T.F_is_layout.ok sc_is_layout (fun vs H Q E h => ?_) (fun cdv A' outer s H vs Q E hr h => ?_)
  · obtain ⟨p, l, cs, rs, ns, rfl, _⟩ := h
    rfl
  · obtain ⟨p, l, cs, rs, ns, rfl, hT, hO, hl, hrl, k⟩ := h
    refine ⟨_, (pss_one (ps_ret (pe_and (pe_cmpR op_isN (pe_call G_order_fault (hr.mono (by decide)) rfl T.mg_order_fault T.F_order_fault.kp T.b_order_fault .nil pass0 (pa_cons (pe_fld (pv 0) rfl) (pa_cons (pv 1) pa_nil))) pe_non (nomark _)) (pe_one (pe_cmpR op_eq (pe_callB call_len_seq (by rfl) T.n_len (by decide +kernel) (pa_cons (pe_call G_broken (hr.mono (by decide)) rfl T.mg_broken T.F_broken.kp T.b_broken .nil pass0 (pa_cons (pv 0) (pa_cons (pv 1) pa_nil))) pa_nil)) pe_int (nomark _)))))), ?_⟩
    obtain ⟨dx, ct, rt, ts, h1, hc, hr2, hts⟩ := id hT
    refine ⟨_, rfl, _, _, _, _, _, rfl, h1, T.cl_Table, T.n_Table_columns, fldsT_columns _ _, _, rfl, ct, l, cs, ns, rfl, SqT.of hc, hO, hl, fun H1 s1 => ?_⟩
    cases hf : fault cs ns with
    | some j =>
      rw [hf] at k
      refine ⟨rfl, _, rfl, itN (fun z => nomatch z) ?_⟩
      exact k H1 s1
    | none =>
      rw [hf] at k
      refine ⟨rfl, _, rfl, itY rfl ?_⟩
      refine ⟨_, rfl, _, rfl, p, l, cs, rs, ns, rfl, hT.same s1, s1.seq hO, hl, hf, hrl, fun q H2 s2 hq hq2 => ⟨q, _, rfl, .inl (SqL.of hq2), rfl, ?_⟩⟩
      rw [List.length_map]
      have := k H2 (s1.trans s2)
      rw [show decide ((V.int (((nums (fun r => decide (1 < rn ns cs r)) rs).length : Nat) : Int)) = V.int 0) = decide ((nums (fun r => decide (1 < rn ns cs r)) rs).length = 0) from decide_eq_decide.mpr ⟨fun e => by have := V.int.inj e; omega, fun e => by rw [e]; rfl⟩]
      exact this
theorem ok_brokenT (T : Txt P K mg A) : FnOk P w K mg base CX0 4 A.a_broken A.d_broken ["table", "order"] (spBroken A.C_Table (SqT K)) := by
  have G_check_orderT := ok_checkT (P := P) (w := w) (base := base) T
  have G_runs_ofT := ok_runsT (P := P) (w := w) (base := base) T
  refine T.F_broken.ok sc_broken (fun vs H Q E h => ?_) (fun cdv A' outer s H vs Q E hr h => ?_)
  · obtain ⟨p, l, cs, rs, ns, rfl, _⟩ := h
    rfl
  · obtain ⟨p, l, cs, rs, ns, rfl, hT, hO, hl, hf, hrl, k⟩ := h
    refine ⟨_, (pss_cons (ps_expr (pe_call G_check_orderT (hr.mono (by decide)) rfl T.mg_check_order T.F_check_order.kp T.b_check_order .nil pass0 (pa_cons (pv 0) (pa_cons (pv 1) pa_nil))))
      (pss_one (ps_ret (pe_lc (own := [("number", 2), ("row", 3)]) (g := gTup K 2 (gCons (gName 2) (gCons (gName 3) gNil))) (tt := _) rfl sc_broken.nd (pi_enumT (by rfl) T.n_enumerate (pa_cons (pe_fld (pv 0) rfl) pa_nil)) (blkOk_by (N := ["table", "order", "number", "row"]) (sc := defScope s_broken) (by decide +kernel)) (fun _ _ _ _ _ => (pg_tup (by rfl) (pgs_cons (pg_name (i := 2) sc_broken.nd rfl (Or.inl rfl)) (pgs_cons (pg_name (i := 3) sc_broken.nd rfl (Or.inl rfl)) pgs_nil)))) (fun _ _ _ _ _ => (pts_one (pt_cmpR op_gt (pe_call G_runs_ofT (hr.mono (by decide)) rfl T.mg_runs_of T.F_runs_of.kp T.b_runs_of .nil pass0 (pa_cons (pv 3) (pa_cons (pv 1) pa_nil))) pe_int (nomark _)))) (fun _ _ _ _ _ => (pv 2)))))), ?_⟩
    refine ⟨_, rfl, _, rfl, p, l, cs, rs, ns, rfl, hT, hO, hl, hf, fun H1 s1 => ?_⟩
    obtain ⟨dx, ct, rt, ts, h1, hc, hr2, hts⟩ := hT.same s1
    have hO1 := s1.tup hO
    have hlen : (ts.map V.ref).length = rs.length := by rw [List.length_map, hts.len, List.length_map]
    refine ⟨_, rfl, _, _, _, _, _, rfl, h1, T.cl_Table, T.n_Table_rows, fldsT_rows _ _, rt, _, rfl, SqT.of hr2, fun D hD => lc_it walk_enumT (PvS H1 D fun i => ((List.range i).filter fun i => (fun r => decide (1 < rn ns cs r)) (rs.getD i [])).map fun n => V.int (n : Nat)) (pv0 hD rfl) (fun i H2 _ p => p.1.tup (SqT.of hr2)) ?_ ?_⟩
    · rintro i x H3 H4 hi q ⟨t, _, _, rfl, ht, rfl, ⟨⟩, hx⟩
      have hi' : i < rs.length := by rw [hlen] at hi; exact hi
      obtain ⟨b, hb, rfl⟩ := refs_get hx
      obtain ⟨y, hy, ho8⟩ := (hts.same q.1).get hb
      obtain ⟨r, hr3, rfl⟩ : ∃ r, rs[i]? = some r ∧ y = canon cs r := by
        rw [List.getElem?_map] at hy
        cases e : rs[i]? with
        | none => rw [e] at hy; cases hy
        | some r => rw [e] at hy; exact ⟨r, rfl, (Option.some.inj hy).symm⟩
      have p' := q.more (same_new (o := .tup [.int (i : Nat), .ref b]) ht)
      refine ⟨t, _, rfl, SqT.of upd_same, rfl, _, _, rfl, _, _, rfl, rfl, rfl, ?_⟩
      refine ⟨_, rfl, _, rfl, b, l, canon cs r, ns, rfl, SqT.of (same_new ht _ _ ho8), p'.1.tup hO1, hl, fun H5 s5 => ⟨_, _, rfl, rfl, _, rfl, ?_⟩⟩
      have p5 := p'.more s5
      by_cases h1 : 1 < runs (flags ns (canon cs r))
      · refine itY (by omega) ⟨_, rfl, p5.push hD (numsT (f := fun r => decide (1 < rn ns cs r)) hr3 (decide_eq_true h1)) (nums_len (fun r => decide (1 < rn ns cs r)) _ i (by omega))⟩
      · exact itN (by omega) (p5.skip (numsF (f := fun r => decide (1 < rn ns cs r)) hr3 (decide_eq_false h1)))
    · rintro H3 ⟨sm, h3⟩
      rw [hlen] at h3
      exact k D H3 (s1.trans sm) (none_of s1 hD) h3
theorem ok_layT (T : Txt P K mg A) : FnOk P w K mg base CX0 5 A.a_is_layout A.d_is_layout ["table", "order"] (spLay A.C_Table (SqT K)) := by
  have G_order_faultT := ok_faultT (P := P) (w := w) (base := base) T
  have G_brokenT := ok_brokenT (P := P) (w := w) (base := base) T
  refine T.F_is_layout.ok sc_is_layout (fun vs H Q E h => ?_) (fun cdv A' outer s H vs Q E hr h => ?_)
  · obtain ⟨p, l, cs, rs, ns, rfl, _⟩ := h
    rfl
  · obtain ⟨p, l, cs, rs, ns, rfl, hT, hO, hl, hrl, k⟩ := h
    refine ⟨_, (pss_one (ps_ret (pe_and (pe_cmpR op_isN (pe_call G_order_faultT (hr.mono (by decide)) rfl T.mg_order_fault T.F_order_fault.kp T.b_order_fault .nil pass0 (pa_cons (pe_fld (pv 0) rfl) (pa_cons (pv 1) pa_nil))) pe_non (nomark _)) (pe_one (pe_cmpR op_eq (pe_callB call_len_seq (by rfl) T.n_len (by decide +kernel) (pa_cons (pe_call G_brokenT (hr.mono (by decide)) rfl T.mg_broken T.F_broken.kp T.b_broken .nil pass0 (pa_cons (pv 0) (pa_cons (pv 1) pa_nil))) pa_nil)) pe_int (nomark _)))))), ?_⟩
    obtain ⟨dx, ct, rt, ts, h1, hc, hr2, hts⟩ := id hT
    refine ⟨_, rfl, _, _, _, _, _, rfl, h1, T.cl_Table, T.n_Table_columns, fldsT_columns _ _, _, rfl, ct, l, cs, ns, rfl, SqT.of hc, hO, hl, fun H1 s1 => ?_⟩
    cases hf : fault cs ns with
    | some j =>
      rw [hf] at k
      refine ⟨rfl, _, rfl, itN (fun z => nomatch z) ?_⟩
      exact k H1 s1
    | none =>
      rw [hf] at k
      refine ⟨rfl, _, rfl, itY rfl ?_⟩
      refine ⟨_, rfl, _, rfl, p, l, cs, rs, ns, rfl, hT.same s1, s1.tup hO, hl, hf, hrl, fun q H2 s2 hq hq2 => ⟨q, _, rfl, .inl (SqL.of hq2), rfl, ?_⟩⟩
      rw [List.length_map]
      have := k H2 (s1.trans s2)
      rw [show decide ((V.int (((nums (fun r => decide (1 < rn ns cs r)) rs).length : Nat) : Int)) = V.int 0) = decide ((nums (fun r => decide (1 < rn ns cs r)) rs).length = 0) from decide_eq_decide.mpr ⟨fun e => by have := V.int.inj e; omega, fun e => by rw [e]; rfl⟩]
      exact this
end
end My
set_option maxRecDepth 100000
set_option maxHeartbeats 4000000
namespace My
open PySem L2 PySem.W
theorem extsT {fl : List Bool} {i : Nat} (h : fl[i]? = some true) : (((List.range (i + 1)).filter fun i => fl.getD i false).map fun n => V.int (n : Nat)) = (((List.range i).filter fun i => fl.getD i false).map fun n => V.int (n : Nat)) ++ [V.int (i : Nat)] := by
  have hd : fl.getD i false = true := by rw [List.getD_eq_getElem?_getD, h]; rfl
  rw [List.range_succ, List.filter_append, List.map_append, List.filter_cons_of_pos (p := fun i => fl.getD i false) hd]; rfl
theorem extsF {fl : List Bool} {i : Nat} (h : fl[i]? = some false) : (((List.range (i + 1)).filter fun i => fl.getD i false).map fun n => V.int (n : Nat)) = (((List.range i).filter fun i => fl.getD i false).map fun n => V.int (n : Nat)) := by
  have hd : fl.getD i false = false := by rw [List.getD_eq_getElem?_getD, h]; rfl
  rw [List.range_succ, List.filter_append, List.map_append, List.filter_cons_of_neg (p := fun i => fl.getD i false) (by rw [hd]; decide)]; simp
theorem exts_len (fl : List Bool) (i : Nat) (hi : i ≤ 1000) : (((List.range i).filter fun i => fl.getD i false).map fun n => V.int (n : Nat)).length ≤ 1000000 := by
  have := List.length_filter_le (fun i => fl.getD i false) (List.range i)
  rw [List.length_range] at this
  rw [List.length_map]; omega
section
variable {P : Program} {w : World} {K : PySem.W.Frag} {mg : Str → Option Value} {base : Heap} {A : Ad}
theorem ok_ext (T : Txt P K mg A) : FnOk P w K mg base CX0 4 A.a_extent A.d_extent ["table", "order", "number"] (spExt A.C_Table (SqL K)) := by
  have G_check_order := ok_check (P := P) (w := w) (base := base) T
  have G_Table_getitem := ok_get (P := P) (w := w) (base := base) T
  refine T.F_extent.ok sc_extent (fun vs H Q E h => ?_) (fun cdv A' outer s H vs Q E hr h => ?_)
  · obtain ⟨p, l, n, cs, rs, ns, rfl, _⟩ := h
    rfl
  · obtain ⟨p, l, n, cs, rs, ns, rfl, hT, hO, hl, hf, hn, k⟩ := h
    refine ⟨_, (pss_cons (ps_expr (pe_call G_check_order (hr.mono (by decide)) rfl T.mg_check_order T.F_check_order.kp T.b_check_order .nil pass0 (pa_cons (pv 0) (pa_cons (pv 1) pa_nil))))
      (pss_cons (ps_set (i := 3) sc_extent.nd rfl (Or.inr rfl) (pe_ixOwn G_Table_getitem T.b_Table_getitem passS0 (hr.mono (by decide)) T.m_Table_getitem.at_ (fnIn_of T.F_Table_getitem) T.m_Table_getitem.fn (pv 0) (pv 2) (fun _ _ => by with_unfolding_all rfl)))
      (pss_cons (ps_setLc (i := 4) (own := [("place", 5), ("name", 6)]) (g := gTup K 2 (gCons (gName 5) (gCons (gName 6) gNil))) (tt := _) rfl sc_extent.nd rfl rfl (sw_true rfl rfl rfl (by decide +kernel)) (pi_enum (by rfl) T.n_enumerate (pa_cons (pv 1) pa_nil)) (blkOk_by (N := ["table", "order", "number", "row", "places", "place", "name"]) (sc := defScope s_extent) (by decide +kernel)) (fun _ _ _ _ _ => (pg_tup (by rfl) (pgs_cons (pg_name (i := 5) sc_extent.nd rfl (Or.inl rfl)) (pgs_cons (pg_name (i := 6) sc_extent.nd rfl (Or.inl rfl)) pgs_nil)))) (fun _ _ _ _ _ => (pts_one (pt_cmpR (show OpR _ _ (rIn K false) from op_in_seq) (pv 6) (pv 3) (by with_unfolding_all rfl)))) (fun _ _ _ _ _ => (pv 5)))
      (pss_one (ps_ret (pe_ifExp (pt_truth (pv 4) (by intro _; rfl)) (pe_tup (pa_cons (pe_ix ix_list (pv 4) pe_int (fun _ _ => rfl)) (pa_cons (pe_ix ix_list (pv 4) (pe_un un_neg pe_int) (fun _ _ => rfl)) pa_nil))) pe_non)))))), ?_⟩
    refine ⟨_, rfl, _, rfl, p, l, cs, rs, ns, rfl, hT, hO, hl, hf, fun H1 s1 => ?_⟩
    have hT1 := hT.same s1
    have hO1 := s1.seq hO
    obtain ⟨dx, ct, rt, ts, h1, _⟩ := id hT1
    refine ⟨_, rfl, _, rfl, p, dx, _, rfl, h1, p, n, cs, rs, rfl, hT1, hn, fun t0 r hr3 ht0 => ?_⟩
    obtain ⟨k1, k2⟩ := k r hr3
    have hfl : (flags ns (canon cs r)).length = ns.length := List.length_map ..
    refine ⟨_, rfl, l, _, rfl, hO1, fun D hD => lc_it walk_enum (PvS H1 D fun i => ((List.range i).filter fun i => (flags ns (canon cs r)).getD i false).map fun n => V.int (n : Nat)) (pv0 hD rfl) (fun i H2 _ p => p.1.seq hO1) ?_ ?_⟩
    · rintro i x H3 H4 hi q ⟨t, _, _, rfl, ht, rfl, ⟨⟩, hx⟩
      obtain ⟨z, hz, rfl⟩ := sv_get hx
      have hil : i < ns.length := by rw [len_sv] at hi; exact hi
      have p' := q.more (same_new (o := .tup [.int (i : Nat), .str z]) ht)
      have hfz : (flags ns (canon cs r))[i]? = some (decide (z ∈ canon cs r)) := by unfold flags; rw [List.getElem?_map, hz]; rfl
      refine ⟨t, _, rfl, SqT.of upd_same, rfl, _, _, rfl, _, _, rfl, rfl, rfl, ?_⟩
      refine ⟨_, rfl, _, rfl, t0, _, rfl, .inr (SqT.of (p'.1 _ _ ht0)), rfl, flat_sv _, _, rfl, ?_⟩
      rw [if_neg Bool.false_ne_true, inV_str]
      by_cases hm : z ∈ canon cs r
      · rw [decide_eq_true hm] at hfz
        exact ifT (decide_eq_true hm) ⟨_, rfl, p'.push hD (extsT hfz) (exts_len _ i (by omega))⟩
      · rw [decide_eq_false hm] at hfz
        exact ifF (decide_eq_false hm) (p'.skip (extsF hfz))
    · rintro H3 ⟨sm, h3⟩
      rw [len_sv, ← hfl] at h3
      have h3 : H3 D = some (.lst ((exts (flags ns (canon cs r))).map fun n => V.int (n : Nat))) := h3
      cases he : exts (flags ns (canon cs r)) with
      | nil =>
        rw [he] at h3
        exact ⟨_, rfl, false, .inl ⟨_, SqL.of h3, rfl⟩, k1 he H3 (s1.trans sm)⟩
      | cons i t =>
        rw [he] at h3
        have at0 : atI ((i :: t).map fun n => V.int (n : Nat)) 0 = some (V.int (i : Nat)) := by
          show atI _ ((0 : Nat) : Int) = _
          exact atI_nat rfl
        obtain ⟨j, hj⟩ : ∃ j, (i :: t).getLast? = some j := ⟨(i :: t).getLast (by simp), List.getLast?_eq_getLast _⟩
        have atl : atI ((i :: t).map fun n => V.int (n : Nat)) (-1) = some (V.int (j : Nat)) := last_at (by rw [List.getLast?_map, hj]; rfl)
        refine ⟨_, rfl, true, .inl ⟨_, SqL.of h3, rfl⟩, ?_⟩
        refine ⟨_, rfl, D, _, _, _, rfl, rfl, SqL.of h3, at0, _, rfl, _, rfl, D, _, _, _, rfl, rfl, SqL.of h3, atl, by show 2 ≤ sizeLine; decide, fun q hq => ?_⟩
        exact k2 i t j he hj q _ (s1.trans (sm.trans (same_new hq))) upd_same
theorem ok_extT (T : Txt P K mg A) : FnOk P w K mg base CX0 4 A.a_extent A.d_extent ["table", "order", "number"] (spExt A.C_Table (SqT K)) := by
  have G_check_orderT := ok_checkT (P := P) (w := w) (base := base) T
  have G_Table_getitem := ok_get (P := P) (w := w) (base := base) T
  refine T.F_extent.ok sc_extent (fun vs H Q E h => ?_) (fun cdv A' outer s H vs Q E hr h => ?_)
  · obtain ⟨p, l, n, cs, rs, ns, rfl, _⟩ := h
    rfl
  · obtain ⟨p, l, n, cs, rs, ns, rfl, hT, hO, hl, hf, hn, k⟩ := h
    refine ⟨_, (pss_cons (ps_expr (pe_call G_check_orderT (hr.mono (by decide)) rfl T.mg_check_order T.F_check_order.kp T.b_check_order .nil pass0 (pa_cons (pv 0) (pa_cons (pv 1) pa_nil))))
      (pss_cons (ps_set (i := 3) sc_extent.nd rfl (Or.inr rfl) (pe_ixOwn G_Table_getitem T.b_Table_getitem passS0 (hr.mono (by decide)) T.m_Table_getitem.at_ (fnIn_of T.F_Table_getitem) T.m_Table_getitem.fn (pv 0) (pv 2) (fun _ _ => by with_unfolding_all rfl)))
      (pss_cons (ps_setLc (i := 4) (own := [("place", 5), ("name", 6)]) (g := gTup K 2 (gCons (gName 5) (gCons (gName 6) gNil))) (tt := _) rfl sc_extent.nd rfl rfl (sw_true rfl rfl rfl (by decide +kernel)) (pi_enumT (by rfl) T.n_enumerate (pa_cons (pv 1) pa_nil)) (blkOk_by (N := ["table", "order", "number", "row", "places", "place", "name"]) (sc := defScope s_extent) (by decide +kernel)) (fun _ _ _ _ _ => (pg_tup (by rfl) (pgs_cons (pg_name (i := 5) sc_extent.nd rfl (Or.inl rfl)) (pgs_cons (pg_name (i := 6) sc_extent.nd rfl (Or.inl rfl)) pgs_nil)))) (fun _ _ _ _ _ => (pts_one (pt_cmpR (show OpR _ _ (rIn K false) from op_in_seq) (pv 6) (pv 3) (by with_unfolding_all rfl)))) (fun _ _ _ _ _ => (pv 5)))
      (pss_one (ps_ret (pe_ifExp (pt_truth (pv 4) (by intro _; rfl)) (pe_tup (pa_cons (pe_ix ix_list (pv 4) pe_int (fun _ _ => rfl)) (pa_cons (pe_ix ix_list (pv 4) (pe_un un_neg pe_int) (fun _ _ => rfl)) pa_nil))) pe_non)))))), ?_⟩
    refine ⟨_, rfl, _, rfl, p, l, cs, rs, ns, rfl, hT, hO, hl, hf, fun H1 s1 => ?_⟩
    have hT1 := hT.same s1
    have hO1 := s1.tup hO
    obtain ⟨dx, ct, rt, ts, h1, _⟩ := id hT1
    refine ⟨_, rfl, _, rfl, p, dx, _, rfl, h1, p, n, cs, rs, rfl, hT1, hn, fun t0 r hr3 ht0 => ?_⟩
    obtain ⟨k1, k2⟩ := k r hr3
    have hfl : (flags ns (canon cs r)).length = ns.length := List.length_map ..
    refine ⟨_, rfl, l, _, rfl, hO1, fun D hD => lc_it walk_enumT (PvS H1 D fun i => ((List.range i).filter fun i => (flags ns (canon cs r)).getD i false).map fun n => V.int (n : Nat)) (pv0 hD rfl) (fun i H2 _ p => p.1.tup hO1) ?_ ?_⟩
    · rintro i x H3 H4 hi q ⟨t, _, _, rfl, ht, rfl, ⟨⟩, hx⟩
      obtain ⟨z, hz, rfl⟩ := sv_get hx
      have hil : i < ns.length := by rw [len_sv] at hi; exact hi
      have p' := q.more (same_new (o := .tup [.int (i : Nat), .str z]) ht)
      have hfz : (flags ns (canon cs r))[i]? = some (decide (z ∈ canon cs r)) := by unfold flags; rw [List.getElem?_map, hz]; rfl
      refine ⟨t, _, rfl, SqT.of upd_same, rfl, _, _, rfl, _, _, rfl, rfl, rfl, ?_⟩
      refine ⟨_, rfl, _, rfl, t0, _, rfl, .inr (SqT.of (p'.1 _ _ ht0)), rfl, flat_sv _, _, rfl, ?_⟩
      rw [if_neg Bool.false_ne_true, inV_str]
      by_cases hm : z ∈ canon cs r
      · rw [decide_eq_true hm] at hfz
        exact ifT (decide_eq_true hm) ⟨_, rfl, p'.push hD (extsT hfz) (exts_len _ i (by omega))⟩
      · rw [decide_eq_false hm] at hfz
        exact ifF (decide_eq_false hm) (p'.skip (extsF hfz))
    · rintro H3 ⟨sm, h3⟩
      rw [len_sv, ← hfl] at h3
      have h3 : H3 D = some (.lst ((exts (flags ns (canon cs r))).map fun n => V.int (n : Nat))) := h3
      cases he : exts (flags ns (canon cs r)) with
      | nil =>
        rw [he] at h3
        exact ⟨_, rfl, false, .inl ⟨_, SqL.of h3, rfl⟩, k1 he H3 (s1.trans sm)⟩
      | cons i t =>
        rw [he] at h3
        have at0 : atI ((i :: t).map fun n => V.int (n : Nat)) 0 = some (V.int (i : Nat)) := by
          show atI _ ((0 : Nat) : Int) = _
          exact atI_nat rfl
        obtain ⟨j, hj⟩ : ∃ j, (i :: t).getLast? = some j := ⟨(i :: t).getLast (by simp), List.getLast?_eq_getLast _⟩
        have atl : atI ((i :: t).map fun n => V.int (n : Nat)) (-1) = some (V.int (j : Nat)) := last_at (by rw [List.getLast?_map, hj]; rfl)
        refine ⟨_, rfl, true, .inl ⟨_, SqL.of h3, rfl⟩, ?_⟩
        refine ⟨_, rfl, D, _, _, _, rfl, rfl, SqL.of h3, at0, _, rfl, _, rfl, D, _, _, _, rfl, rfl, SqL.of h3, atl, by show 2 ≤ sizeLine; decide, fun q hq => ?_⟩
        exact k2 i t j he hj q _ (s1.trans (sm.trans (same_new hq))) upd_same
theorem ok_extX (T : Txt P K mg A) : FnOk P w K mg base (L2.CX P w) 5 A.a_extent A.d_extent ["table", "order", "number"] (spRunX K A.C_Table A.C_BadOrder A.C_UnknownRow) := by
  have GX_check_order := ok_checkZ (P := P) (w := w) (base := base) T
  have GX_Table_getitem := ok_getX (P := P) (w := w) (base := base) T
  refine funX T.F_extent sc_extent (fun vs H Q E h => ?_) (fun cdv A' outer s H vs Q E hr h => ?_)
  · obtain ⟨p, l, i, cs, rs, ns, rfl, _⟩ := h
    rfl
  · obtain ⟨p, l, i, cs, rs, ns, rfl, hT, hO, hl, hk⟩ := h
    refine ⟨_, (pss_cons (ps_expr (pe_callS GX_check_order (hr.mono (by decide)) rfl T.mg_check_order T.F_check_order.kp T.b_check_order (fun σ => passAt (takes_of rfl rfl rfl rfl) σ) (pa_cons (pv 0) (pa_cons (pv 1) pa_nil))))
      (pss_cons (ps_set (i := 3) sc_extent.nd rfl (Or.inr rfl) (pe_ixOwn GX_Table_getitem T.b_Table_getitem (fun σ => passAt (takes_of rfl rfl rfl rfl) σ) (hr.mono (by decide)) T.m_Table_getitem.at_ (fnIn_of T.F_Table_getitem) T.m_Table_getitem.fn (pv 0) (pv 2) (fun _ _ => by with_unfolding_all rfl)))
      (pss_cons (ps_setLc (i := 4) (own := [("place", 5), ("name", 6)]) (g := gTup K 2 (gCons (gName 5) (gCons (gName 6) gNil))) (tt := _) rfl sc_extent.nd rfl rfl (sw_true rfl rfl rfl (by decide +kernel)) (pi_enum (by rfl) T.n_enumerate (pa_cons (pv 1) pa_nil)) (blkOk_by (N := ["table", "order", "number", "row", "places", "place", "name"]) (sc := defScope s_extent) (by decide +kernel)) (fun _ _ _ _ _ => (pg_tup (by rfl) (pgs_cons (pg_name (i := 5) sc_extent.nd rfl (Or.inl rfl)) (pgs_cons (pg_name (i := 6) sc_extent.nd rfl (Or.inl rfl)) pgs_nil)))) (fun _ _ _ _ _ => (pts_one (pt_cmpR (show OpR _ _ (rIn K false) from op_in_seq) (pv 6) (pv 3) (by with_unfolding_all rfl)))) (fun _ _ _ _ _ => (pv 5)))
      (pss_one (ps_ret (pe_ifExp (pt_truth (pv 4) (by intro _; rfl)) (pe_tup (pa_cons (pe_ix ix_list (pv 4) pe_int (fun _ _ => rfl)) (pa_cons (pe_ix ix_list (pv 4) (pe_un un_neg pe_int) (fun _ _ => rfl)) pa_nil))) pe_non)))))), ?_⟩
    refine ⟨_, rfl, _, rfl, p, l, cs, rs, ns, rfl, hT, hO, hl, fun j hj d H' s' hd => ?_, fun hf H1 s1 => ?_⟩
    · rcases hk with ⟨j', hj', k⟩ | ⟨hn, _⟩
      · rw [hj] at hj'; cases hj'; exact k d H' s' hd
      · rw [hj] at hn; cases hn
    · rcases hk with ⟨j', hj', k⟩ | ⟨_, hout, hi, k⟩
      · rw [hf] at hj'; cases hj'
      · have hT1 := hT.same s1
        obtain ⟨dx, ct, rt, ts, h1, _⟩ := id hT1
        exact ⟨_, rfl, _, rfl, p, dx, _, rfl, h1, p, i, cs, rs, rfl, hT1, hout, hi, fun d H' s' hd => k d H' (s1.trans s') hd⟩
theorem ok_brokenX (T : Txt P K mg A) : FnOk P w K mg base (L2.CX P w) 4 A.a_broken A.d_broken ["table", "order"] (spCheckX K A.C_Table A.C_BadOrder) := by
  have GX_check_order := ok_checkX (P := P) (w := w) (base := base) T
  refine funX T.F_broken sc_broken (fun vs H Q E h => ?_) (fun cdv A' outer s H vs Q E hr h => ?_)
  · obtain ⟨p, l, cs, rs, ns, i, rfl, _⟩ := h
    rfl
  · obtain ⟨p, l, cs, rs, ns, i, rfl, ht, h2, hl, hf, k⟩ := h
    refine ⟨_, (pss_cons (ps_expr (pe_callS GX_check_order (hr.mono (by decide)) rfl T.mg_check_order T.F_check_order.kp T.b_check_order (fun σ => passAt (takes_of rfl rfl rfl rfl) σ) (pa_cons (pv 0) (pa_cons (pv 1) pa_nil))))
      (pss_one ps_never)), ?_⟩
    refine ⟨_, rfl, _, rfl, p, l, cs, rs, ns, i, rfl, ht, h2, hl, hf, fun d H' sm hd => ?_⟩
    exact k d H' sm hd
theorem ok_gapsX (T : Txt P K mg A) : FnOk P w K mg base (L2.CX P w) 4 A.a_gap_rows A.d_gap_rows ["table", "order"] (spCheckX K A.C_Table A.C_BadOrder) := by
  have GX_check_order := ok_checkX (P := P) (w := w) (base := base) T
  refine funX T.F_gap_rows sc_gap_rows (fun vs H Q E h => ?_) (fun cdv A' outer s H vs Q E hr h => ?_)
  · obtain ⟨p, l, cs, rs, ns, i, rfl, _⟩ := h
    rfl
  · obtain ⟨p, l, cs, rs, ns, i, rfl, ht, h2, hl, hf, k⟩ := h
    refine ⟨_, (pss_cons (ps_expr (pe_callS GX_check_order (hr.mono (by decide)) rfl T.mg_check_order T.F_check_order.kp T.b_check_order (fun σ => passAt (takes_of rfl rfl rfl rfl) σ) (pa_cons (pv 0) (pa_cons (pv 1) pa_nil))))
      (pss_one ps_never)), ?_⟩
    refine ⟨_, rfl, _, rfl, p, l, cs, rs, ns, i, rfl, ht, h2, hl, hf, fun d H' sm hd => ?_⟩
    exact k d H' sm hd
def spCommon (C : Addr) : Sp := fun vs H Q _ => ∃ p one other cs rs, vs = [.ref p, .str one, .str other] ∧ Tb C H p cs rs ∧ rs.length ≤ 1000 ∧ ∀ q H', Same H H' → H q = none → H' q = some (.tup (iv (ni (nums (both cs one other) rs)))) → Q (.ref q) H'
theorem ok_common (T : Txt P K mg A) : FnOk P w K mg base CX0 1 A.a_common_rows A.d_common_rows ["table", "one", "other"] (spCommon A.C_Table) := by
  refine T.F_common_rows.ok sc_common_rows (fun vs H Q E h => ?_) (fun cdv A' outer s H vs Q E hr h => ?_)
  · obtain ⟨p, one, other, cs, rs, rfl, _⟩ := h
    rfl
  · obtain ⟨p, one, other, cs, rs, rfl, hT, hrl, k⟩ := h
    refine ⟨_, (pss_one (ps_ret (pe_callTy call_tuple_of (by rfl) T.n_tuple (by decide +kernel) (pa_cons (pe_lc (own := [("number", 3), ("row", 4)]) (g := gTup K 2 (gCons (gName 3) (gCons (gName 4) gNil))) (tt := _) rfl sc_common_rows.nd (pi_enumT (by rfl) T.n_enumerate (pa_cons (pe_fld (pv 0) rfl) pa_nil)) (blkOk_by (N := ["table", "one", "other", "number", "row"]) (sc := defScope s_common_rows) (by decide +kernel)) (fun _ _ _ _ _ => (pg_tup (by rfl) (pgs_cons (pg_name (i := 3) sc_common_rows.nd rfl (Or.inl rfl)) (pgs_cons (pg_name (i := 4) sc_common_rows.nd rfl (Or.inl rfl)) pgs_nil)))) (fun _ _ _ _ _ => (pts_one (PW.pt (pw_and (pt_cmpR (show OpR _ _ (rIn K false) from op_in_seq) (pv 1) (pv 4) (by with_unfolding_all rfl)) (pw_and1 (pt_cmpR (show OpR _ _ (rIn K false) from op_in_seq) (pv 2) (pv 4) (by with_unfolding_all rfl))))))) (fun _ _ _ _ _ => (pv 3))) pa_nil)))), ?_⟩
    obtain ⟨dx, ct, rt, ts, h1, hc, hr2, hts⟩ := hT
    have hlen : (ts.map V.ref).length = rs.length := by rw [List.length_map, hts.len, List.length_map]
    refine ⟨_, rfl, _, _, _, _, _, rfl, h1, T.cl_Table, T.n_Table_rows, fldsT_rows _ _, rt, _, rfl, SqT.of hr2, fun D hD => lc_it walk_enumT (PvS H D fun i => ((List.range i).filter fun i => (both cs one other) (rs.getD i [])).map fun n => V.int (n : Nat)) (pv0 hD rfl) (fun i H2 _ p => p.1.tup (SqT.of hr2)) ?_ ?_⟩
    · rintro i x H3 H4 hi q ⟨t, _, _, rfl, ht, rfl, ⟨⟩, hx⟩
      have hi' : i < rs.length := by rw [hlen] at hi; exact hi
      obtain ⟨b, hb, rfl⟩ := refs_get hx
      obtain ⟨y, hy, ho8⟩ := (hts.same q.1).get hb
      obtain ⟨r, hr3, rfl⟩ : ∃ r, rs[i]? = some r ∧ y = canon cs r := by
        rw [List.getElem?_map] at hy
        cases e : rs[i]? with
        | none => rw [e] at hy; cases hy
        | some r => rw [e] at hy; exact ⟨r, rfl, (Option.some.inj hy).symm⟩
      have p' := q.more (same_new (o := .tup [.int (i : Nat), .ref b]) ht)
      have ho9 := same_new (o := .tup [.int (i : Nat), .ref b]) ht _ _ ho8
      refine ⟨t, _, rfl, SqT.of upd_same, rfl, _, _, rfl, _, _, rfl, rfl, rfl, ?_⟩
      refine ⟨_, rfl, _, rfl, b, _, rfl, .inr (SqT.of ho9), rfl, flat_sv _, _, rfl, ?_⟩
      rw [if_neg Bool.false_ne_true, inV_str]
      by_cases h1 : one ∈ canon cs r
      · refine ifT (decide_eq_true h1) ⟨_, rfl, _, rfl, b, _, rfl, .inr (SqT.of ho9), rfl, flat_sv _, _, rfl, ?_⟩
        rw [if_neg Bool.false_ne_true, inV_str]
        by_cases h2 : other ∈ canon cs r
        · exact ifT (decide_eq_true h2) ⟨_, rfl, p'.push hD (numsT (f := both cs one other) hr3 (by unfold both; rw [decide_eq_true h1, decide_eq_true h2]; rfl)) (nums_len _ _ i (by omega))⟩
        · exact ifF (decide_eq_false h2) (p'.skip (numsF (f := both cs one other) hr3 (by unfold both; rw [decide_eq_false h2, Bool.and_false])))
      · exact ifF (decide_eq_false h1) (iteF (p'.skip (numsF (f := both cs one other) hr3 (by unfold both; rw [decide_eq_false h1]; rfl))))
    · rintro H3 ⟨sm, h3⟩
      rw [hlen] at h3
      refine ⟨D, _, rfl, .inl ⟨SqL.of h3, fun q hq => k q _ (sm.trans (same_new hq)) (none_of sm hq) ?_⟩⟩
      rw [upd_same, ni_iv]; rfl
def spLen (C : Addr) : Sp := fun vs H Q _ => ∃ p cs rs, vs = [.ref p] ∧ Tb C H p cs rs ∧ Q (.int (rs.length : Nat)) H
theorem ok_len (T : Txt P K mg A) : FnOk P w K mg base CX0 1 A.a_Table_len A.d_Table_len ["self"] (spLen A.C_Table) := by
  refine T.F_Table_len.ok sc_Table_len (fun vs H Q E h => ?_) (fun cdv A' outer s H vs Q E hr h => ?_)
  · obtain ⟨p, cs, rs, rfl, _⟩ := h
    rfl
  · obtain ⟨p, cs, rs, rfl, ⟨dx, ct, rt, ts, h1, hc, h3, hs⟩, k⟩ := h
    refine ⟨_, (pss_one (ps_ret (pe_callB call_len_seq (by rfl) T.n_len (by decide +kernel) (pa_cons (pe_fld (pv 0) rfl) pa_nil)))), ?_⟩
    refine ⟨_, rfl, _, _, _, _, _, rfl, h1, T.cl_Table, T.n_Table_rows, fldsT_rows _ _, rt, _, rfl, .inr (SqT.of h3), ?_⟩
    rw [List.length_map, hs.len, List.length_map]
    exact k
def spIter (C : Addr) : Sp := fun vs H Q _ => ∃ p dx ct rt, vs = [.ref p] ∧ H p = some (.ins C dx (fldsT ct rt)) ∧ (∃ xs, H rt = some (.tup xs)) ∧ ∀ it, H it = none → Q (.ref it) (upd H it (TitO rt it 0))
theorem ok_iter (T : Txt P K mg A) : FnOk P w K mg base CX0 1 A.a_Table_iter A.d_Table_iter ["self"] (spIter A.C_Table) := by
  refine T.F_Table_iter.ok sc_Table_iter (fun vs H Q E h => ?_) (fun cdv A' outer s H vs Q E hr h => ?_)
  · obtain ⟨p, dx, ct, rt, rfl, _⟩ := h
    rfl
  · obtain ⟨p, dx, ct, rt, rfl, h1, ⟨xs, h3⟩, k⟩ := h
    refine ⟨_, (pss_one (ps_ret (pe_callB call_iterT (by rfl) T.n_iter (by decide +kernel) (pa_cons (pe_fld (pv 0) rfl) pa_nil)))), ?_⟩
    exact ⟨_, rfl, _, _, _, _, _, rfl, h1, T.cl_Table, T.n_Table_rows, fldsT_rows _ _, rt, _, rfl, SqT.of h3, k⟩
/-! ### the picture -/
theorem pad9 : ∀ n : Fin 9, PadOk ((n.val : Nat) : Int) = true := by decide +kernel
theorem pad_ok {W : Int} (h0 : 0 ≤ W) (h1 : W ≤ 8) : PadOk W = true := by
  have := pad9 ⟨W.toNat, by omega⟩
  have e : ((W.toNat : Nat) : Int) = W := by omega
  rw [← e]; exact this
theorem rMaxDf_mk {K : PySem.W.Frag} {a : Addr} {ns : List Int} {d W : Int} {H : Hp} {Q : VK} (h : SqL K H a (ns.map V.int)) (h0 : ns = [] → d = W) (h1 : ∀ m, m ∈ ns → (∀ y ∈ ns, y ≤ m) → m = W) (q : Q (.int W) H) : rMaxDf K [.ref a] [.int d] H Q :=
  ⟨a, ns, d, rfl, rfl, h, fun e => by rw [h0 e]; exact q, fun m hm hb => by rw [h1 m hm hb]; exact q⟩
theorem sv_snoc (l : List Str) (x : Str) : sv (l ++ [x]) = sv l ++ [V.str x] := List.map_append
/-- words and a width that fit -/
structure Wd (ws : List Str) (W : Int) : Prop where
  n : ws.length ≤ 12
  l : ∀ x ∈ ws, x.length ≤ 8
  w0 : 0 ≤ W
  w1 : W ≤ 8
theorem Wd.len {ws : List Str} {W : Int} (h : Wd ws W) : ∀ y ∈ ws.map (fun x => Txt.ljust x W), y.length ≤ 16 := fun y hy => by
  obtain ⟨x, hx, rfl⟩ := List.mem_map.mp hy
  rw [ljust_len]
  have := h.l x hx
  have := h.w1
  omega
theorem ls_sp : Str.length (" " : Str) = 1 := by decide
theorem ls_nl : Str.length ("\n" : Str) = 1 := by decide
theorem Wd.fit {ws : List Str} {W : Int} (h : Wd ws W) : ((ws.map (fun x => Txt.ljust x W)).map (·.length)).sum + (ws.map (fun x => Txt.ljust x W)).length * Str.length (" " : Str) ≤ 16777216 ∧ (fill ws W).length ≤ 12 * (16 + 1) := by
  have := fits_join (a := (" " : Str)) (n := 12) h.len (by rw [List.length_map]; exact h.n) (by rw [ls_sp]; decide)
  rw [ls_sp] at this
  exact ⟨by rw [ls_sp]; exact this.1, this.2⟩
end
end My
set_option maxRecDepth 100000
set_option maxHeartbeats 4000000
namespace My
open PySem L2 PySem.W
theorem at_svn {ns : List Str} {j : Nat} (h : j < ns.length) : atI (sv ns) (j : Int) = some (V.str (ns.getD j Str.empty)) := by
  refine atI_nat ?_
  rw [List.getElem?_map, List.getElem?_eq_getElem h, List.getD_eq_getElem?_getD, List.getElem?_eq_getElem h]; rfl
section
variable {P : Program} {w : World} {K : PySem.W.Frag} {mg : Str → Option Value} {base : Heap} {A : Ad}
def spGaps (C : Addr) (sq2 : Hp → Addr → List V → Prop) : Sp := fun vs H Q _ => ∃ p l cs rs ns, vs = [.ref p, .ref l] ∧ Tb C H p cs rs ∧ sq2 H l (sv ns) ∧ ns.length ≤ 1000 ∧ fault cs ns = none ∧ rs.length ≤ 1000 ∧ ∀ q H' xs, Same H H' → H q = none → H' q = some (.lst xs) → Lsi .tup H' xs (gapS cs rs ns) → Q (.ref q) H'
theorem ok_gaps (T : Txt P K mg A) : FnOk P w K mg base CX0 4 A.a_gap_rows A.d_gap_rows ["table", "order"] (spGaps A.C_Table (SqL K)) := by
  have G_check_order := ok_check (P := P) (w := w) (base := base) T
  have G_common_rows := ok_common (P := P) (w := w) (base := base) T
  refine T.F_gap_rows.ok sc_gap_rows (fun vs H Q E h => ?_) (fun cdv A' outer s H vs Q E hr h => ?_)
  · obtain ⟨p, l, cs, rs, ns, rfl, _⟩ := h
    rfl
  · obtain ⟨p, l, cs, rs, ns, rfl, hT, hO, hl, hf, hrl, k⟩ := h
    refine ⟨_, (pss_cons (ps_expr (pe_call G_check_order (hr.mono (by decide)) rfl T.mg_check_order T.F_check_order.kp T.b_check_order .nil pass0 (pa_cons (pv 0) (pa_cons (pv 1) pa_nil))))
      (pss_one (ps_ret (pe_callB (cr_sortTI (hu10 hr)) (by rfl) T.n_sorted (by decide +kernel) (pa_cons (pe_lc (own := [("at", 2)]) (g := gName 2) (tt := tYes) rfl sc_gap_rows.nd (pi_range2 (by rfl) T.n_range (pa_cons pe_int (pa_cons (pe_callB call_len_seq (by rfl) T.n_len (by decide +kernel) (pa_cons (pv 1) pa_nil)) pa_nil))) (blkOk_by (N := ["table", "order", "at"]) (sc := defScope s_gap_rows) (by decide +kernel)) (fun _ _ _ _ _ => (pg_name (i := 2) sc_gap_rows.nd rfl (Or.inl rfl))) (fun _ _ _ _ _ => pts_nil) (fun _ _ _ _ _ => (pe_call G_common_rows (hr.mono (by decide)) rfl T.mg_common_rows T.F_common_rows.kp T.b_common_rows .nil pass0 (pa_cons (pv 0) (pa_cons (pe_ix (show IxR _ (rIxL K) from ix_list) (pv 1) (pe_op op_sub (pv 2) pe_int) (fun _ _ => rfl)) (pa_cons (pe_ix (show IxR _ (rIxL K) from ix_list) (pv 1) (pv 2) (fun _ _ => rfl)) pa_nil)))))) pa_nil))))), ?_⟩
    refine ⟨_, rfl, _, rfl, p, l, cs, rs, ns, rfl, hT, hO, hl, hf, fun H1 s1 => ?_⟩
    have hT1 := hT.same s1
    have hO1 := s1.seq hO
    refine ⟨_, rfl, l, _, rfl, .inl hO1, 1, _, rfl, ⟨by decide, by decide, by omega, by rw [len_sv]; omega⟩, ?_⟩
    have hn : ((((sv ns).length : Nat) : Int) - 1).toNat = ns.length - 1 := by rw [len_sv]; omega
    rw [hn]
    refine fun D hD => lc_range (n := ns.length - 1) (fun i H8 => LcI .tup H1 D ((List.range i).map (gap cs rs ns)) H8) (lci0 hD) ?_ ?_
    · rintro j H8 hj q
      have hj1 : (1 : Int) + (j : Int) = ((j + 1 : Nat) : Int) := by omega
      have hj0 : (1 : Int) + (j : Int) - 1 = (j : Int) := by omega
      have at1 : atI (sv ns) (1 + (j : Int) - 1) = some (V.str (ns.getD j Str.empty)) := by rw [hj0]; exact at_svn (by omega)
      have at2 : atI (sv ns) (1 + (j : Int)) = some (V.str (ns.getD (j + 1) Str.empty)) := by rw [hj1]; exact at_svn (by omega)
      refine ⟨rfl, _, rfl, _, rfl, _, rfl, _, _, rfl, rfl, l, _, _, _, rfl, rfl, q.1.seq hO1, at1, _, rfl, _, rfl, l, _, _, _, rfl, rfl, q.1.seq hO1, at2, p, _, _, cs, rs, rfl, hT1.same q.1, hrl, fun t H9 s9 ht ht9 => ?_⟩
      have hdt : t ≠ D := by obtain ⟨_, xs, hd, _⟩ := q; exact (ne_of_none hd ht).symm
      have := q.push (b := gap cs rs ns j) hD s9 ht9 hdt (by rw [List.length_map, List.length_range]; omega)
      rw [List.range_succ, List.map_append]
      exact this
    rintro H3 q
    have s3 := q.1
    obtain ⟨xs, h3, hx⟩ := q.fin
    refine ⟨D, xs, gaps cs rs ns, fun x b => ∃ t, x = V.ref t ∧ H3 t = some (.tup (iv b)), rfl, SqL.of h3, hx, fun x b ⟨t, e, ht⟩ => by rw [e]; exact .tup (SqT.of ht) (dp_ints b), fun ys p hys hp => ?_⟩
    exact k p _ ys (s1.trans (s3.trans (same_new hp))) (none_of (s1.trans s3) hp) upd_same (hys.mono fun x b ⟨t, e, ht⟩ => ⟨t, e, same_new hp _ _ ht⟩)
theorem ok_gapsT (T : Txt P K mg A) : FnOk P w K mg base CX0 4 A.a_gap_rows A.d_gap_rows ["table", "order"] (spGaps A.C_Table (SqT K)) := by
  have G_check_orderT := ok_checkT (P := P) (w := w) (base := base) T
  have G_common_rows := ok_common (P := P) (w := w) (base := base) T
  refine T.F_gap_rows.ok sc_gap_rows (fun vs H Q E h => ?_) (fun cdv A' outer s H vs Q E hr h => ?_)
  · obtain ⟨p, l, cs, rs, ns, rfl, _⟩ := h
    rfl
  · obtain ⟨p, l, cs, rs, ns, rfl, hT, hO, hl, hf, hrl, k⟩ := h
    refine ⟨_, (pss_cons (ps_expr (pe_call G_check_orderT (hr.mono (by decide)) rfl T.mg_check_order T.F_check_order.kp T.b_check_order .nil pass0 (pa_cons (pv 0) (pa_cons (pv 1) pa_nil))))
      (pss_one (ps_ret (pe_callB (cr_sortTI (hu10 hr)) (by rfl) T.n_sorted (by decide +kernel) (pa_cons (pe_lc (own := [("at", 2)]) (g := gName 2) (tt := tYes) rfl sc_gap_rows.nd (pi_range2 (by rfl) T.n_range (pa_cons pe_int (pa_cons (pe_callB call_len_seq (by rfl) T.n_len (by decide +kernel) (pa_cons (pv 1) pa_nil)) pa_nil))) (blkOk_by (N := ["table", "order", "at"]) (sc := defScope s_gap_rows) (by decide +kernel)) (fun _ _ _ _ _ => (pg_name (i := 2) sc_gap_rows.nd rfl (Or.inl rfl))) (fun _ _ _ _ _ => pts_nil) (fun _ _ _ _ _ => (pe_call G_common_rows (hr.mono (by decide)) rfl T.mg_common_rows T.F_common_rows.kp T.b_common_rows .nil pass0 (pa_cons (pv 0) (pa_cons (pe_ix (show IxR _ (rIxT K) from ix_tup) (pv 1) (pe_op op_sub (pv 2) pe_int) (fun _ _ => rfl)) (pa_cons (pe_ix (show IxR _ (rIxT K) from ix_tup) (pv 1) (pv 2) (fun _ _ => rfl)) pa_nil)))))) pa_nil))))), ?_⟩
    refine ⟨_, rfl, _, rfl, p, l, cs, rs, ns, rfl, hT, hO, hl, hf, fun H1 s1 => ?_⟩
    have hT1 := hT.same s1
    have hO1 := s1.tup hO
    refine ⟨_, rfl, l, _, rfl, .inr hO1, 1, _, rfl, ⟨by decide, by decide, by omega, by rw [len_sv]; omega⟩, ?_⟩
    have hn : ((((sv ns).length : Nat) : Int) - 1).toNat = ns.length - 1 := by rw [len_sv]; omega
    rw [hn]
    refine fun D hD => lc_range (n := ns.length - 1) (fun i H8 => LcI .tup H1 D ((List.range i).map (gap cs rs ns)) H8) (lci0 hD) ?_ ?_
    · rintro j H8 hj q
      have hj1 : (1 : Int) + (j : Int) = ((j + 1 : Nat) : Int) := by omega
      have hj0 : (1 : Int) + (j : Int) - 1 = (j : Int) := by omega
      have at1 : atI (sv ns) (1 + (j : Int) - 1) = some (V.str (ns.getD j Str.empty)) := by rw [hj0]; exact at_svn (by omega)
      have at2 : atI (sv ns) (1 + (j : Int)) = some (V.str (ns.getD (j + 1) Str.empty)) := by rw [hj1]; exact at_svn (by omega)
      refine ⟨rfl, _, rfl, _, rfl, _, rfl, _, _, rfl, rfl, l, _, _, _, rfl, rfl, q.1.tup hO1, at1, _, rfl, _, rfl, l, _, _, _, rfl, rfl, q.1.tup hO1, at2, p, _, _, cs, rs, rfl, hT1.same q.1, hrl, fun t H9 s9 ht ht9 => ?_⟩
      have hdt : t ≠ D := by obtain ⟨_, xs, hd, _⟩ := q; exact (ne_of_none hd ht).symm
      have := q.push (b := gap cs rs ns j) hD s9 ht9 hdt (by rw [List.length_map, List.length_range]; omega)
      rw [List.range_succ, List.map_append]
      exact this
    rintro H3 q
    have s3 := q.1
    obtain ⟨xs, h3, hx⟩ := q.fin
    refine ⟨D, xs, gaps cs rs ns, fun x b => ∃ t, x = V.ref t ∧ H3 t = some (.tup (iv b)), rfl, SqL.of h3, hx, fun x b ⟨t, e, ht⟩ => by rw [e]; exact .tup (SqT.of ht) (dp_ints b), fun ys p hys hp => ?_⟩
    exact k p _ ys (s1.trans (s3.trans (same_new hp))) (none_of (s1.trans s3) hp) upd_same (hys.mono fun x b ⟨t, e, ht⟩ => ⟨t, e, same_new hp _ _ ht⟩)
end
end My
set_option maxRecDepth 100000
set_option maxHeartbeats 4000000
set_option exponentiation.threshold 10000
namespace My
open PySem L2
theorem mulW {i j : Int} (hi : i.natAbs < 2 ^ 9000) (hj : j.natAbs < 2 ^ 9000) : CMulW i j := wide_mul hi hj (by decide) (by decide) (by decide)
theorem atI_ok {xs : List Int} {j : Int} (h0 : 0 ≤ j) (h1 : j < xs.length) : ∃ v, v ∈ xs ∧ atI (xs.map V.int) j = some (V.int v) := by
  have hj : j.toNat < xs.length := by omega
  refine ⟨xs[j.toNat], List.getElem_mem hj, ?_⟩
  have e : (xs.map V.int)[j.toNat]? = some (V.int xs[j.toNat]) := by rw [List.getElem?_map, List.getElem?_eq_getElem hj]; rfl
  have := atI_nat e
  rw [show ((j.toNat : Nat) : Int) = j by omega] at this
  exact this
theorem len_map_int (xs : List Int) : (xs.map V.int).length = xs.length := List.length_map ..
/-- a pool of draws -/
def Pool (ns : List Int) : Prop := ∀ x ∈ ns, 0 ≤ x ∧ x < 27720
theorem Pool.nil : Pool [] := fun x h => nomatch h
theorem Pool.app {ns : List Int} {x : Int} (h : Pool ns) (h0 : 0 ≤ x) (h1 : x < 27720) : Pool (ns ++ [x]) := fun y hy => by
  rcases List.mem_append.mp hy with hy | hy
  · exact h y hy
  · cases List.mem_singleton.mp hy; exact ⟨h0, h1⟩
theorem upd_app {H : Hp} {l : Addr} {ps : List Int} {x : Int} : upd (upd H l (.lst (ps.map V.int))) l (.lst (ps.map V.int ++ [V.int x])) = upd H l (.lst ((ps ++ [x]).map V.int)) := by
  rw [upd_upd, List.map_append]
  rfl
theorem mod_sz {x m : Int} {k : Nat} (h : 0 < m) (hk : m.natAbs < 2 ^ k) : (x % m).natAbs < 2 ^ k := by
  have h1 := Int.emod_nonneg x (Int.ne_of_gt h)
  have h2 := Int.emod_lt_of_pos x h
  omega
def spCell (K : PySem.W.Frag) : Sp := fun vs H Q _ => ∃ (a : Addr) (ns : List Int) (k : Int), vs = [.ref a, .int k] ∧ SqL K H a (ns.map V.int) ∧ 0 ≤ k ∧ ∀ z, Q (.int z) H
def spPool (K : PySem.W.Frag) : Sp := fun vs H Q _ => ∃ (a : Addr) (ns : List Int) (k c : Int), vs = [.ref a, .int k, .int c] ∧ SqL K H a (ns.map V.int) ∧ 0 ≤ k ∧ 0 ≤ c ∧ c ≤ 1000 ∧
  ∀ p ps H', Same H H' → H' p = some (.lst (ps.map V.int)) → (ps.length : Int) = c → Pool ps → Q (.ref p) H'
section
variable {P : Program} {w : World} {K : PySem.W.Frag} {mg : Str → Option Value} {base : Heap} {A : Ad}
theorem ok_cell (T : Txt P K mg A) : FnOk P w K mg base CX0 1 A.a_law_cell A.d_law_cell ["script", "k"] (spCell K) := by
  refine T.F_law_cell.ok sc_law_cell (fun vs H Q E h => ?_) (fun cdv A' outer s H vs Q E hr h => ?_)
  · obtain ⟨a, ns, k, rfl, _⟩ := h
    rfl
  · obtain ⟨a, ns, i, rfl, hS, h0, k⟩ := h
    refine ⟨_, (pss_cons (ps_if (pt_cmpR op_lt (pv 1) (pe_callB call_len_seq (by rfl) T.n_len (by decide +kernel) (pa_cons (pv 0) pa_nil)) (nomark _)) (pss_one (ps_ret (pe_ix ix_list (pv 0) (pv 1) (fun _ _ => rfl)))) pss_nil)
      (pss_one (ps_ret pe_int))), ?_⟩
    refine ⟨_, rfl, _, rfl, _, _, rfl, .inl hS, _, _, rfl, rfl, _, rfl, ?_⟩
    by_cases hi : i < ((ns.map V.int).length : Int)
    · refine itY hi ?_
      obtain ⟨v, hv, e⟩ := atI_ok (xs := ns) h0 (by rw [len_map_int] at hi; exact hi)
      exact ⟨_, rfl, _, rfl, _, _, _, _, rfl, rfl, hS, e, k v⟩
    · refine itN hi ?_
      exact k 0
theorem ok_pool (T : Txt P K mg A) : FnOk P w K mg base CX0 2 A.a_law_pool A.d_law_pool ["script", "k", "count"] (spPool K) := by
  have G_law_cell : FnOk P w K mg base CX0 1 A.a_law_cell A.d_law_cell ["script", "k"] (spCell K) := ok_cell T
  refine T.F_law_pool.ok sc_law_pool (fun vs H Q E h => ?_) (fun cdv A' outer s H vs Q E hr h => ?_)
  · obtain ⟨a, ns, k, c, rfl, _⟩ := h
    rfl
  · obtain ⟨a, ns, i, c, rfl, hS, h0, hc0, hc, k⟩ := h
    refine ⟨_, (pss_cons (ps_set (i := 3) sc_law_pool.nd rfl (Or.inl rfl) (pe_callB call_abs (by rfl) T.n_abs (by decide +kernel) (pa_cons (pe_call G_law_cell (hr.mono (by decide)) rfl T.mg_law_cell T.F_law_cell.kp T.b_law_cell .nil pass0 (pa_cons (pv 0) (pa_cons (pv 1) pa_nil))) pa_nil)))
      (pss_cons (ps_set (i := 4) sc_law_pool.nd rfl (Or.inl rfl) (pe_lst pa_nil))
      (pss_cons (ps_if (pt_cmpR op_ge (pv 3) (pe_op op_pow pe_int pe_int) (nomark _)) (pss_cons (ps_set (i := 3) sc_law_pool.nd rfl (Or.inl rfl) (pe_op op_sub (pv 3) (pe_op op_pow pe_int pe_int)))
      (pss_cons (ps_for PassesOwn.never rfl (pi_range1 (by rfl) T.n_range (pa_cons (pv 2) pa_nil)) (pg_name (i := 5) sc_law_pool.nd rfl (Or.inl rfl))
        (pss_cons (ps_expr (pe_bm PySem.F.plainAttrs_list PySem.F.slot_list_append PySem.F.type_list_append mt_append (pv 4) (pa_cons (pe_op op_mod (pe_callTy call_int1 (by rfl) T.n_int (by decide +kernel) (pa_cons (pv 3) pa_nil)) pe_int) pa_nil)))
      (pss_one (ps_set (i := 3) sc_law_pool.nd rfl (Or.inl rfl) (pe_op op_fdiv (pv 3) pe_int)))))
      (pss_one (ps_ret (pv 4))))) pss_nil)
      (pss_cons (ps_for PassesOwn.never rfl (pi_range1 (by rfl) T.n_range (pa_cons (pv 2) pa_nil)) (pg_name (i := 5) sc_law_pool.nd rfl (Or.inl rfl))
        (pss_cons (ps_set (i := 6) sc_law_pool.nd rfl (Or.inl rfl) (pe_op op_mod (pe_callTy call_int1 (by rfl) T.n_int (by decide +kernel) (pa_cons (pe_op op_add (pe_op op_add (pe_op op_add (pe_op op_mul (pv 3) pe_int) (pe_op op_mul (pe_op op_add (pv 5) pe_int) pe_int)) (pe_op op_mul (pv 1) pe_int)) pe_int) pa_nil)) pe_int))
      (pss_cons (ps_set (i := 7) sc_law_pool.nd rfl (Or.inl rfl) (pe_op op_mod (pe_callTy call_int1 (by rfl) T.n_int (by decide +kernel) (pa_cons (pe_op op_add (pe_op op_add (pe_op op_mulW (pv 6) (pv 6)) (pe_op op_mul (pv 3) pe_int)) (pv 5)) pa_nil)) pe_int))
      (pss_cons (ps_set (i := 8) sc_law_pool.nd rfl (Or.inl rfl) (pe_op op_mod (pe_callTy call_int1 (by rfl) T.n_int (by decide +kernel) (pa_cons (pe_op op_add (pe_op op_mulW (pv 7) (pv 7)) (pv 6)) pa_nil)) pe_int))
      (pss_one (ps_expr (pe_bm PySem.F.plainAttrs_list PySem.F.slot_list_append PySem.F.type_list_append mt_append (pv 4) (pa_cons (pe_op op_mod (pe_callTy call_int1 (by rfl) T.n_int (by decide +kernel) (pa_cons (pe_op op_fdiv (pv 8) pe_int) pa_nil)) pe_int) pa_nil))))))))
      (pss_one (ps_ret (pv 4))))))), ?_⟩
    refine ⟨_, rfl, _, rfl, a, ns, i, rfl, hS, h0, fun z => ⟨_, rfl, ?_⟩⟩
    refine ⟨by show 0 ≤ sizeLine; decide, fun l hl => ?_⟩
    refine ⟨_, rfl, _, _, rfl, rfl, ⟨by decide, by decide, by decide⟩, _, _, rfl, rfl, _, rfl, ?_⟩
    have fin : ∀ ps : List Int, ps.length = c.toNat → Pool ps → Q (.ref l) (upd H l (.lst (ps.map V.int))) := fun ps h1 h2 => k l ps _ (same_new hl) upd_same (by omega) h2
    refine ite2 (fun hb => ?_) (fun hb => ?_)
    · refine ⟨_, rfl, _, _, rfl, rfl, ⟨by decide, by decide, by decide⟩, _, _, rfl, rfl, ?_⟩
      refine ⟨_, rfl, c, rfl, by omega, by omega, for_range (n := c.toNat) (fun j σ H2 => ∃ (v : Int) (ps : List Int) (u : Option V), σ = [some (.ref a), some (.int i), some (.int c), some (.int v), some (.ref l), u, none, none, none] ∧
        H2 = upd H l (.lst (ps.map V.int)) ∧ ps.length = j ∧ Pool ps) ⟨_, [], none, rfl, rfl, rfl, Pool.nil⟩ ?_ ?_⟩
      · rintro j σ H2 hj ⟨v, ps, u, rfl, rfl, hl2, hp⟩
        refine ⟨_, rfl, .inl ⟨rfl, _, SqL.of upd_same⟩, _, rfl, .inl ⟨_, rfl, ?_⟩⟩
        refine ⟨_, _, rfl, rfl, by show (0 : Int) < 27720; decide, l, _, _, rfl, rfl, upd_same, small_int (by rw [len_map_int]; omega), ?_⟩
        refine ⟨_, rfl, _, _, rfl, rfl, ⟨by decide, by decide⟩, ?_⟩
        refine ⟨_, ps ++ [v % 27720], _, rfl, ?_, by simp [hl2], hp.app (Int.emod_nonneg _ (by decide)) (Int.emod_lt_of_pos _ (by decide))⟩
        rw [upd_upd, List.map_append]
        rfl
      · rintro σ H2 ⟨v, ps, u, rfl, rfl, hl2, hp⟩
        exact ⟨_, rfl, fin ps hl2 hp⟩
    · refine ⟨_, rfl, c, rfl, by omega, by omega, for_range (n := c.toNat) (fun j σ H2 => ∃ (v : Int) (ps : List Int) (u u1 u2 u3 : Option V), σ = [some (.ref a), some (.int i), some (.int c), some (.int v), some (.ref l), u, u1, u2, u3] ∧
        H2 = upd H l (.lst (ps.map V.int)) ∧ ps.length = j ∧ Pool ps) ⟨_, [], none, none, none, none, rfl, rfl, rfl, Pool.nil⟩ ?_ ?_⟩
      · rintro j σ H2 hj ⟨v, ps, u, u1, u2, u3, rfl, rfl, hl2, hp⟩
        refine ⟨_, rfl, _, _, rfl, rfl, .inr (by decide), _, rfl, _, _, rfl, rfl, _, _, rfl, rfl, .inr (by decide), _, _, rfl, rfl, _, rfl, _, _, rfl, rfl, .inr (by decide), _, _, rfl, rfl, _, _, rfl, rfl, .inl ⟨_, rfl, _, _, rfl, rfl, by show (0 : Int) < 2147483647; decide, ?_⟩⟩
        refine ⟨_, rfl, _, rfl, _, _, rfl, rfl, mulW (mod_sz (by decide) (by decide)) (mod_sz (by decide) (by decide)), _, rfl, _, _, rfl, rfl, .inr (by decide), _, _, rfl, rfl, _, rfl, _, _, rfl, rfl, .inl ⟨_, rfl, _, _, rfl, rfl, by show (0 : Int) < 2147483629; decide, ?_⟩⟩
        refine ⟨_, rfl, _, rfl, _, _, rfl, rfl, mulW (mod_sz (by decide) (by decide)) (mod_sz (by decide) (by decide)), _, rfl, _, _, rfl, rfl, .inl ⟨_, rfl, _, _, rfl, rfl, by show (0 : Int) < 2147483587; decide, ?_⟩⟩
        refine ⟨_, rfl, .inl ⟨rfl, _, SqL.of upd_same⟩, _, rfl, _, _, rfl, rfl, ⟨by decide, by decide⟩, .inl ⟨_, rfl, ?_⟩⟩
        refine ⟨_, _, rfl, rfl, by show (0 : Int) < 27720; decide, l, _, _, rfl, rfl, upd_same, small_int (by rw [len_map_int]; omega), ?_⟩
        exact ⟨_, ps ++ [_], _, _, _, _, rfl, upd_app, by simp [hl2], hp.app (Int.emod_nonneg _ (by decide)) (Int.emod_lt_of_pos _ (by decide))⟩
      · rintro σ H2 ⟨v, ps, u, u1, u2, u3, rfl, rfl, hl2, hp⟩
        exact ⟨_, rfl, fin ps hl2 hp⟩
end
/-! ### drawn names -/
theorem alpha_at : ∀ k : Fin 26, atI (("abcdefghijklmnopqrstuvwxyz" : Str)).cps.toList ((k.val : Nat) : Int) = some (97 + k.val) := by decide +kernel
theorem alpha_ix : ∀ k : Fin 26, Builtin.Str.occurrences ("abcdefghijklmnopqrstuvwxyz" : Str) ⟨#[97 + k.val]⟩ 0 (("abcdefghijklmnopqrstuvwxyz" : Str)).length 1 = [k.val] := by decide +kernel
theorem alpha_len : (("abcdefghijklmnopqrstuvwxyz" : Str)).length ≤ sizeLine := by decide
theorem Letters.app {l m : List Nat} (h : Letters l) (k : Letters m) : Letters (l ++ m) := fun c hc => (List.mem_append.mp hc).elim (h c) (k c)
theorem Letters.one {c : Nat} (h0 : 97 ≤ c) (h1 : c ≤ 122) : Letters [c] := fun d hd => by rw [List.mem_singleton.mp hd]; exact ⟨h0, h1⟩
/-- the word whose last sign has gone t signs on -/
def wat (pre : List Nat) (c t : Nat) : Str := ⟨(pre ++ [97 + (c - 97 + t) % 26]).toArray⟩
theorem wat_len {pre : List Nat} {c t : Nat} : (wat pre c t).length = pre.length + 1 := by
  show ((pre ++ [97 + (c - 97 + t) % 26]).toArray).size = _
  rw [List.size_toArray, List.length_append]; rfl
theorem wat_last {pre : List Nat} {c t : Nat} : atI (wat pre c t).cps.toList (-1) = some (97 + (c - 97 + t) % 26) := by
  show atI (pre ++ [97 + (c - 97 + t) % 26]) (-1) = _
  unfold atI ixN
  rw [if_neg (by decide)]
  have h1 : ((pre ++ [97 + (c - 97 + t) % 26]).length : Int) = (pre.length : Int) + 1 := by rw [List.length_append]; rfl
  have e : (-1 + ((pre ++ [97 + (c - 97 + t) % 26]).length : Int)).toNat = pre.length := by omega
  rw [if_pos (by omega), e]
  simp
theorem wat_next {pre : List Nat} {c t : Nat} : wat pre c (t + 1) = cutS (wat pre c t) none (some (-1)) ++ (⟨#[97 + ((c - 97 + t) % 26 + 1) % 26]⟩ : Str) := by
  apply str_ext
  apply Array.toList_inj.mp
  rw [append_cps, Array.toList_append]
  show pre ++ [97 + (c - 97 + (t + 1)) % 26] = (((pre ++ [97 + (c - 97 + t) % 26]).drop 0).take _) ++ [97 + ((c - 97 + t) % 26 + 1) % 26]
  have h2 : HT.sIx (wat pre c t).length (wat pre c t).length (some (-1)) - HT.sIx (wat pre c t).length 0 none = pre.length := by
    rw [wat_len]
    unfold HT.sIx
    simp
    omega
  rw [h2, List.drop_zero, List.take_left]
  have : (c - 97 + (t + 1)) % 26 = ((c - 97 + t) % 26 + 1) % 26 := by omega
  rw [this]
theorem nodup_le {l : List Str} : ∀ {m : List Str}, l.Nodup → (∀ x ∈ l, x ∈ m) → l.length ≤ m.length := by
  induction l with
  | nil => intro m _ _; exact Nat.zero_le _
  | cons a t ih =>
    intro m nd h
    rw [List.nodup_cons] at nd
    have ha := h a List.mem_cons_self
    have := ih (m := m.erase a) nd.2 fun x hx => (List.mem_erase_of_ne (fun e => nd.1 (by rw [← e]; exact hx))).mpr (h x (List.mem_cons_of_mem _ hx))
    rw [List.length_erase_of_mem ha] at this
    have : 0 < m.length := List.length_pos_of_mem ha
    rw [List.length_cons]
    omega
theorem wat_many {pre : List Nat} {c : Nat} {ns : List Str} (h : ∀ t, t < 26 → wat pre c t ∈ ns) : 26 ≤ ns.length := by
  have nd : ((List.range 26).map (wat pre c)).Nodup := by
    rw [List.nodup_iff_pairwise_ne, List.pairwise_map]
    refine List.Pairwise.imp_of_mem (fun {a b} ha hb hab e => hab ?_) (List.nodup_iff_pairwise_ne.mp List.nodup_range)
    have e1 : pre ++ [97 + (c - 97 + a) % 26] = pre ++ [97 + (c - 97 + b) % 26] := congrArg (fun z : Str => z.cps.toList) e
    have e2 := List.append_cancel_left e1
    have e3 : 97 + (c - 97 + a) % 26 = 97 + (c - 97 + b) % 26 := List.head_eq_of_cons_eq e2
    have := List.mem_range.mp ha
    have := List.mem_range.mp hb
    omega
  have := nodup_le nd fun x hx => by
    obtain ⟨t, ht, rfl⟩ := List.mem_map.mp hx
    exact h t (List.mem_range.mp ht)
  rw [List.length_map, List.length_range] at this
  exact this
theorem sv_inj {a b : List Str} (h : sv a = sv b) : a = b := by
  have : ∀ {a b : List Str}, sv a = sv b → a = b := fun {a b} => by
    intro h
    induction a generalizing b with
    | nil => cases b with | nil => rfl | cons _ _ => cases h
    | cons x t ih =>
      cases b with
      | nil => cases h
      | cons y u =>
        have h1 := List.cons.inj h
        rw [V.str.inj h1.1, ih h1.2]
  exact this h
section
variable {P : Program} {w : World} {K : PySem.W.Frag} {mg : Str → Option Value} {base : Heap} {A : Ad}
def spWord (K : PySem.W.Frag) : Sp := fun vs H Q _ => ∃ (p : Addr) (ns : List Int) (i : Int), vs = [.ref p, .int i] ∧ SqL K H p (ns.map V.int) ∧ Pool ns ∧ 0 ≤ i ∧ i + 2 < ns.length ∧ ∀ z, Good z → Q (.str z) H
theorem ok_word (T : Txt P K mg A) : FnOk P w K mg base CX0 1 A.a_law_word A.d_law_word ["pool", "at"] (spWord K) := by
  refine T.F_law_word.ok sc_law_word (fun vs H Q E h => ?_) (fun cdv A' outer s H vs Q E hr h => ?_)
  · obtain ⟨p, ns, i, rfl, _⟩ := h
    rfl
  · obtain ⟨p, ns, i, rfl, hS, hp, h0, h1, k⟩ := h
    refine ⟨_, (pss_cons (ps_set (i := 2) sc_law_word.nd rfl (Or.inl rfl) (pe_op op_add (pe_op op_mul (pe_op op_add (pe_op op_mul (pe_ix ix_list (pv 0) (pv 1) (fun _ _ => rfl)) pe_int) (pe_ix ix_list (pv 0) (pe_op op_add (pv 1) pe_int) (fun _ _ => rfl))) pe_int) (pe_ix ix_list (pv 0) (pe_op op_add (pv 1) pe_int) (fun _ _ => rfl))))
      (pss_cons (ps_set (i := 3) sc_law_word.nd rfl (Or.inl rfl) (pe_op op_add pe_int (pe_op op_mod (pe_callTy call_int1 (by rfl) T.n_int (by decide +kernel) (pa_cons (pv 2) pa_nil)) pe_int)))
      (pss_cons (ps_set (i := 2) sc_law_word.nd rfl (Or.inl rfl) (pe_op op_fdiv (pv 2) pe_int))
      (pss_cons (ps_set (i := 4) sc_law_word.nd rfl (Or.inl rfl) pe_str)
      (pss_cons (ps_for PassesOwn.never rfl (pi_range1 (by rfl) T.n_range (pa_cons (pv 3) pa_nil)) (pg_name (i := 5) sc_law_word.nd rfl (Or.inl rfl))
        (pss_cons (ps_set (i := 4) sc_law_word.nd rfl (Or.inl rfl) (pe_op op_add_str (pv 4) (pe_ix ix_str pe_str (pe_op op_mod (pe_callTy call_int1 (by rfl) T.n_int (by decide +kernel) (pa_cons (pv 2) pa_nil)) pe_int) (fun _ _ => rfl))))
      (pss_one (ps_set (i := 2) sc_law_word.nd rfl (Or.inl rfl) (pe_op op_fdiv (pv 2) pe_int)))))
      (pss_one (ps_ret (pv 4)))))))), ?_⟩
    obtain ⟨x0, hx0, e0⟩ := atI_ok (xs := ns) (j := i) h0 (by omega)
    obtain ⟨x1, hx1, e1⟩ := atI_ok (xs := ns) (j := i + 1) (by omega) (by omega)
    obtain ⟨x2, hx2, e2⟩ := atI_ok (xs := ns) (j := i + 2) (by omega) (by omega)
    have y0 := hp x0 hx0
    have y1 := hp x1 hx1
    have y2 := hp x2 hx2
    refine ⟨_, rfl, _, rfl, _, _, _, _, rfl, rfl, hS, e0, _, _, rfl, rfl, .inr (by decide), _, rfl, _, rfl, _, _, rfl, rfl, _, _, _, _, rfl, rfl, hS, e1, _, _, rfl, rfl, _, _, rfl, rfl, .inr (by decide), _, rfl, _, rfl, _, _, rfl, rfl, _, _, _, _, rfl, rfl, hS, e2, _, _, rfl, rfl, ?_⟩
    dsimp only
    generalize hc : ((x0 * 27720 + x1) * 27720 + x2) = code
    have hc0 : 0 ≤ code := by omega
    have m0 := Int.emod_nonneg code (show (8 : Int) ≠ 0 by decide)
    have m1 := Int.emod_lt_of_pos code (show (0 : Int) < 8 by decide)
    refine ⟨_, rfl, .inl ⟨_, rfl, _, _, rfl, rfl, by show (0 : Int) < 8; decide, _, _, rfl, rfl, ?_⟩⟩
    refine ⟨_, rfl, _, _, rfl, rfl, ⟨by decide, by decide⟩, ?_⟩
    dsimp only
    generalize hsz : (1 : Int) + code % 8 = size
    refine ⟨_, rfl, size, rfl, by omega, by omega, for_range (n := size.toNat) (fun j σ H2 => H2 = H ∧ ∃ (c : Int) (z : Str) (u : Option V), σ = [some (.ref p), some (.int i), some (.int c), some (.int size), some (.str z), u] ∧ 0 ≤ c ∧ z.length = j ∧ Letters z.cps.toList)
      ⟨rfl, code / 8, ("" : Str), none, rfl, Int.ediv_nonneg hc0 (by decide), by decide, by rw [show (("" : Str)).cps.toList = [] by decide]; exact fun c hc => nomatch hc⟩ ?_ ?_⟩
    · rintro j σ H2 hj ⟨rfl, c, z, u, rfl, hc1, hl, hlet⟩
      have n0 := Int.emod_nonneg c (show (26 : Int) ≠ 0 by decide)
      have n1 := Int.emod_lt_of_pos c (show (0 : Int) < 26 by decide)
      have ea := alpha_at ⟨(c % 26).toNat, by omega⟩
      have ea : atI (("abcdefghijklmnopqrstuvwxyz" : Str)).cps.toList (((c % 26).toNat : Nat) : Int) = some (97 + (c % 26).toNat) := ea
      rw [show (((c % 26).toNat : Nat) : Int) = c % 26 by omega] at ea
      refine ⟨_, rfl, _, rfl, .inl ⟨_, rfl, _, _, rfl, rfl, by show (0 : Int) < 26; decide, _, _, _, rfl, rfl, alpha_len, ea, _, _, rfl, rfl, ?_, ?_⟩⟩
      · show z.length + 1 ≤ sizeLine
        rw [hl]
        have : j + 1 ≤ 8 := by omega
        exact Nat.le_trans this (by decide)
      · refine ⟨_, rfl, _, _, rfl, rfl, ⟨by decide, by decide⟩, rfl, c / 26, _, _, rfl, Int.ediv_nonneg hc1 (by decide), ?_, ?_⟩
        · rw [Str.length_append, hl]; rfl
        · rw [append_cps, Array.toList_append]
          exact hlet.app (Letters.one (by omega) (by omega))
    · rintro σ H2 ⟨rfl, c, z, u, rfl, hc1, hl, hlet⟩
      exact ⟨_, rfl, k z ⟨by omega, by omega, hlet⟩⟩
def spNew (K : PySem.W.Frag) : Sp := fun vs H Q _ => ∃ (l : Addr) (ns : List Str) (z : Str), vs = [.ref l, .str z] ∧ SqL K H l (sv ns) ∧ ns.length ≤ 25 ∧ Good z ∧ ∀ z', Good z' → z' ∉ ns → Q (.str z') H
theorem ok_new (T : Txt P K mg A) : FnOk P w K mg base CX0 1 A.a_law_new A.d_law_new ["names", "word"] (spNew K) := by
  refine T.F_law_new.ok sc_law_new (fun vs H Q E h => ?_) (fun cdv A' outer s H vs Q E hr h => ?_)
  · obtain ⟨l, ns, z, rfl, _⟩ := h
    rfl
  · obtain ⟨l, ns, z, rfl, hS, hl, g, k⟩ := h
    refine ⟨_, (pss_cons (ps_set (i := 2) sc_law_new.nd rfl (Or.inl rfl) pe_str)
      (pss_cons (ps_for PassesOwn.never rfl (pi_range1 (by rfl) T.n_range (pa_cons pe_int pa_nil)) (pg_name (i := 3) sc_law_new.nd rfl (Or.inl rfl))
        (pss_cons (ps_if (pt_cmpR op_notIn_seq (pv 1) (pv 0) (by with_unfolding_all rfl)) (pss_one ps_break) pss_nil)
      (pss_one (ps_set (i := 1) sc_law_new.nd rfl (Or.inl rfl) (pe_op op_add_str (pe_slice sl_str (pv 1) po_none (po_some (pe_un un_neg pe_int))) (pe_ix ix_str (pv 2) (pe_op op_mod (pe_callTy call_int1 (by rfl) T.n_int (by decide +kernel) (pa_cons (pe_op op_add (pe_m1 PySem.F.slot_str_index PySem.F.type_str_index mt_sindex (pv 2) (pe_ix ix_str (pv 1) (pe_un un_neg pe_int) (fun _ _ => rfl))) pe_int) pa_nil)) pe_int) (fun _ _ => rfl)))))))
      (pss_one (ps_ret (pv 1))))), ?_⟩
    obtain ⟨pre, c, hz⟩ : ∃ pre c, z.cps.toList = pre ++ [c] := by
      have h1 : 0 < z.cps.toList.length := by have := g.pos; have e : z.cps.toList.length = z.length := Array.length_toList; omega
      exact ⟨_, _, (List.dropLast_concat_getLast (List.length_pos_iff.mp h1)).symm⟩
    have hc : 97 ≤ c ∧ c ≤ 122 := g.let_ c (by rw [hz]; simp)
    have hpre : Letters pre := fun x hx => g.let_ x (by rw [hz]; exact List.mem_append_left _ hx)
    have hpl : pre.length + 1 = z.length := by
      have e : z.cps.toList.length = z.length := Array.length_toList
      rw [hz] at e; simpa using e
    have hg : ∀ t, Good (wat pre c t) := fun t => by
      have := g.pos
      have := g.le
      refine ⟨?_, ?_, ?_⟩
      · rw [wat_len]; omega
      · rw [wat_len]; omega
      · show Letters (pre ++ [97 + (c - 97 + t) % 26])
        exact hpre.app (Letters.one (by omega) (by omega))
    have hz0 : z = wat pre c 0 := by
      apply str_ext
      apply Array.toList_inj.mp
      rw [hz]
      show pre ++ [c] = pre ++ [97 + (c - 97 + 0) % 26]
      have : 97 + (c - 97 + 0) % 26 = c := by omega
      rw [this]
    rw [hz0]
    have hsl : ∀ t, (wat pre c t).length ≤ sizeLine := fun t => Nat.le_trans (hg t).le (by decide)
    refine ⟨26, rfl, by decide, by decide, for_range (n := 26) (fun t σ H2 => H2 = H ∧ ∃ u : Option V, σ = [some (.ref l), some (.str (wat pre c t)), some (.str "abcdefghijklmnopqrstuvwxyz"), u] ∧ ∀ s, s < t → wat pre c s ∈ ns)
      ⟨rfl, none, rfl, fun s hs => absurd hs (Nat.not_lt_zero _)⟩ ?_ ?_⟩
    · rintro t σ H2 ht ⟨rfl, u, rfl, hall⟩
      refine ⟨_, rfl, _, rfl, l, _, rfl, .inl hS, rfl, flat_sv _, _, rfl, ?_⟩
      rw [if_pos (rfl : true = true), inV_str]
      by_cases hin : wat pre c t ∈ ns
      · refine ifF (by rw [decide_eq_true hin]; rfl) ?_
        have m26 : (c - 97 + t) % 26 < 26 := Nat.mod_lt _ (by decide)
        have ei : Builtin.Str.occurrences ("abcdefghijklmnopqrstuvwxyz" : Str) ⟨#[97 + (c - 97 + t) % 26]⟩ 0 (("abcdefghijklmnopqrstuvwxyz" : Str)).length 1 = [(c - 97 + t) % 26] := alpha_ix ⟨_, m26⟩
        have k26 : ((c - 97 + t) % 26 + 1) % 26 < 26 := Nat.mod_lt _ (by decide)
        have ea : atI (("abcdefghijklmnopqrstuvwxyz" : Str)).cps.toList (((((c - 97 + t) % 26 + 1) % 26 : Nat)) : Int) = some (97 + ((c - 97 + t) % 26 + 1) % 26) := alpha_at ⟨_, k26⟩
        rw [show (((((c - 97 + t) % 26 + 1) % 26 : Nat)) : Int) = ((((c - 97 + t) % 26 : Nat)) + 1 : Int) % 26 by omega] at ea
        refine ⟨_, rfl, _, rfl, _, rfl, _, rfl, hsl t, _, rfl, _, rfl, ⟨_, rfl⟩, _, rfl, _, rfl, _, _, _, rfl, rfl, hsl t, wat_last, _, _, _, _, rfl, rfl, ei, _, _, rfl, rfl, .inl ⟨_, rfl, _, _, rfl, rfl, by show (0 : Int) < 26; decide, _, _, _, rfl, rfl, alpha_len, ea, _, _, rfl, rfl, ?_, rfl, some (.int (0 + (t : Int))), ?_, ?_⟩⟩
        · refine Nat.le_trans (Nat.add_le_add_right (cutS_length _ _ _) 1) ?_
          have := (hg t).le
          exact Nat.le_trans (Nat.succ_le_succ this) (by decide)
        · rw [wat_next]; rfl
        · intro s hs
          rcases Nat.lt_succ_iff_lt_or_eq.mp hs with q | q
          · exact hall s q
          · rw [q]; exact hin
      · refine ifT (by rw [decide_eq_false hin]; rfl) ?_
        exact ⟨_, rfl, k _ (hg t) hin⟩
    · rintro σ H2 ⟨rfl, u, rfl, hall⟩
      exfalso
      have := wat_many (fun t ht => hall t ht)
      omega
def spSeq (K : PySem.W.Frag) : Sp := fun vs H Q _ => ∃ (l : Addr) (ns : List Str) (d : Int), vs = [.ref l, .int d] ∧ SqL K H l (sv ns) ∧ ns.length ≤ 50 ∧ ∀ p ms H', Same H H' → H p = none → H' p = some (.lst (sv ms)) → ms.Perm ns → Q (.ref p) H'
theorem ok_seq (T : Txt P K mg A) : FnOk P w K mg base CX0 1 A.a_law_sequence A.d_law_sequence ["names", "draw"] (spSeq K) := by
  refine T.F_law_sequence.ok sc_law_sequence (fun vs H Q E h => ?_) (fun cdv A' outer s H vs Q E hr h => ?_)
  · obtain ⟨l, ns, d, rfl, _⟩ := h
    rfl
  · obtain ⟨l, ns, d, rfl, hS, hl, k⟩ := h
    refine ⟨_, (pss_cons (ps_set (i := 2) sc_law_sequence.nd rfl (Or.inl rfl) (pe_callTy call_list_of (by rfl) T.n_list (by decide +kernel) (pa_cons (pv 0) pa_nil)))
      (pss_cons (ps_set (i := 3) sc_law_sequence.nd rfl (Or.inl rfl) (pe_lst pa_nil))
      (pss_cons (ps_for PassesOwn.never rfl (pi_range1 (by rfl) T.n_range (pa_cons (pe_callB call_len_seq (by rfl) T.n_len (by decide +kernel) (pa_cons (pv 0) pa_nil)) pa_nil)) (pg_name (i := 4) sc_law_sequence.nd rfl (Or.inl rfl))
        (pss_cons (ps_set (i := 5) sc_law_sequence.nd rfl (Or.inl rfl) (pe_op op_mod (pe_callTy call_int1 (by rfl) T.n_int (by decide +kernel) (pa_cons (pv 1) pa_nil)) (pe_callB call_len_seq (by rfl) T.n_len (by decide +kernel) (pa_cons (pv 2) pa_nil))))
      (pss_cons (ps_set (i := 1) sc_law_sequence.nd rfl (Or.inl rfl) (pe_op op_fdivX (pv 1) (pe_callB call_len_seq (by rfl) T.n_len (by decide +kernel) (pa_cons (pv 2) pa_nil))))
      (pss_cons (ps_expr (pe_bm PySem.F.plainAttrs_list PySem.F.slot_list_append PySem.F.type_list_append mt_append (pv 3) (pa_cons (pe_ix ix_list (pv 2) (pv 5) (fun _ _ => rfl)) pa_nil)))
      (pss_one (ps_set (i := 2) sc_law_sequence.nd rfl (Or.inl rfl) (pe_op op_cat (pe_slice sl_list (pv 2) po_none (po_some (pv 5))) (pe_slice sl_list (pv 2) (po_some (pe_op op_add (pv 5) pe_int)) po_none))))))))
      (pss_one (ps_ret (pv 3)))))), ?_⟩
    refine ⟨_, rfl, l, _, rfl, .inl hS, fun q0 hq0 => ?_⟩
    refine ⟨by show 0 ≤ sizeLine; decide, fun r hr => ?_⟩
    have hr0 := hr
    have s1 := same_new (o := .lst (sv ns)) hq0
    have nqr : q0 ≠ r := ne_of_none upd_same hr
    refine ⟨_, rfl, l, _, rfl, .inl ((s1.trans (same_new hr)).seq hS), ?_⟩
    rw [len_sv]
    refine ⟨_, rfl, by omega, by omega, for_range (n := ns.length) (fun j σ H3 => ∃ (d : Int) (q : Addr) (ls ms : List Str) (u4 u5 : Option V), σ = [some (.ref l), some (.int d), some (.ref q), some (.ref r), u4, u5] ∧
      Same (upd H q0 (.lst (sv ns))) H3 ∧ H3 r = some (.lst (sv ms)) ∧ H3 q = some (.lst (sv ls)) ∧ (ms ++ ls).Perm ns ∧ ms.length = j ∧ q ≠ r) ⟨d, q0, ns, [], none, none, rfl, same_new hr, upd_same, by rw [upd_ne nqr]; exact upd_same, List.Perm.refl _, rfl, nqr⟩ ?_ ?_⟩
    · rintro j σ H3 hj ⟨d, q, ls, ms, u4, u5, rfl, sm, h3, hq, hp, hm, nq⟩
      have hlen := hp.length_eq
      rw [List.length_append] at hlen
      have hpos : 0 < ls.length := by omega
      have p0 := Int.emod_nonneg d (show ((ls.length : Nat) : Int) ≠ 0 by omega)
      have p1 := Int.emod_lt_of_pos d (show (0 : Int) < ((ls.length : Nat) : Int) by omega)
      refine ⟨_, rfl, .inl ⟨_, rfl, _, rfl, q, _, rfl, .inl (SqL.of hq), _, _, rfl, rfl, by rw [len_sv]; omega, ?_⟩⟩
      dsimp only
      rw [len_sv]
      generalize hpk : d % ((ls.length : Nat) : Int) = pick at p0 p1 ⊢
      obtain ⟨n, rfl⟩ := Int.eq_ofNat_of_zero_le p0
      have hn : n < ls.length := by omega
      refine ⟨_, rfl, _, rfl, q, _, rfl, .inl (SqL.of hq), _, _, rfl, rfl, ⟨by rw [len_sv]; omega, ?_⟩, ?_⟩
      · rw [len_sv, Int.natAbs_natCast]
        have : ls.length ≤ 50 := by omega
        exact Nat.lt_of_le_of_lt this (by decide)
      have at1 : atI (sv ls) ((n : Nat) : Int) = some (V.str ls[n]) := atI_nat (by rw [List.getElem?_map, List.getElem?_eq_getElem hn]; rfl)
      refine ⟨_, rfl, .inl ⟨rfl, _, SqL.of h3⟩, _, rfl, _, rfl, _, _, _, _, rfl, rfl, SqL.of hq, at1, r, _, _, rfl, rfl, h3, small_int (by rw [len_sv]; omega), ?_⟩
      generalize hX : upd H3 r _ = H4
      have sm4 : Same (upd H q0 (.lst (sv ns))) H4 := fun b o e => by rw [← hX, upd_ne (ne_of_none e hr)]; exact sm _ _ e
      have hr4 : H4 r = some (.lst (sv (ms ++ [ls[n]]))) := by rw [← hX, sv_snoc]; exact upd_same
      have hq4 : H4 q = some (.lst (sv ls)) := by rw [← hX, upd_ne nq]; exact hq
      clear hX
      refine ⟨_, rfl, _, rfl, _, rfl, q, _, rfl, SqL.of hq4, fun a ha => ⟨_, rfl, _, rfl, _, _, rfl, rfl, _, rfl, q, _, rfl, SqL.of (same_new ha _ _ hq4), fun b hb => ?_⟩⟩
      have nab : a ≠ b := ne_of_none upd_same hb
      rw [cut_take (by rw [len_sv]; omega), sv_take] at hb ⊢
      rw [show ((n : Int) + 1) = ((n + 1 : Nat) : Int) by omega, cut_drop (by rw [len_sv]; omega), sv_drop]
      refine ⟨a, b, _, _, rfl, rfl, by rw [upd_ne nab]; exact upd_same, upd_same, ?_, fun c hc => ?_⟩
      · rw [len_sv, len_sv, List.length_take, List.length_drop]
        have : min n ls.length + (ls.length - (n + 1)) ≤ 50 := by omega
        exact Nat.le_trans this (by decide)
      · have s5 := (same_new (o := .lst (sv (ls.take n))) ha).trans ((same_new (o := .lst (sv (ls.drop (n + 1)))) hb).trans (same_new (o := .lst (sv (ls.take n) ++ sv (ls.drop (n + 1)))) hc))
        refine ⟨_, c, ls.take n ++ ls.drop (n + 1), ms ++ [ls[n]], _, _, rfl, sm4.trans s5, s5 _ _ hr4, ?_, ?_, by rw [List.length_append, hm]; rfl, fun z => ?_⟩
        · rw [upd_same]; exact congrArg (fun z => some (HO.lst z)) List.map_append.symm
        · refine List.Perm.trans ?_ hp
          rw [List.append_assoc]
          refine List.Perm.append_left ms ?_
          have e : ls = ls.take n ++ ls[n] :: ls.drop (n + 1) := by
            conv => lhs; rw [← List.take_append_drop n ls]
            rw [List.drop_eq_getElem_cons hn]
          conv => rhs; rw [e]
          show (ls[n] :: (ls.take n ++ ls.drop (n + 1))).Perm _
          exact List.perm_middle.symm
        · subst z
          rw [((same_new (o := .lst (sv (ls.take n))) ha).trans (same_new (o := .lst (sv (ls.drop (n + 1)))) hb)) _ _ hr4] at hc
          cases hc
    · rintro σ H3 ⟨d, q, ls, ms, u4, u5, rfl, sm, h3, hq, hp, hm, nq⟩
      have hl0 : ls = [] := by
        have := hp.length_eq
        rw [List.length_append] at this
        exact List.eq_nil_of_length_eq_zero (by omega)
      subst hl0
      rw [List.append_nil] at hp
      exact ⟨_, rfl, k r ms H3 (s1.trans sm) (none_of s1 hr0) h3 hp⟩
end
end My
set_option maxRecDepth 100000
set_option maxHeartbeats 4000000
set_option exponentiation.threshold 10000
namespace My
open PySem L2
open C8 (pss_cut)
theorem cut_sv (os : List Str) (lo hi : Option Int) : ∃ ys : List Str, cutV (sv os) lo hi = sv ys ∧ ys.Sublist os := by
  unfold cutV
  rw [sv_drop, sv_take]
  exact ⟨_, rfl, (List.take_sublist _ _).trans (List.drop_sublist _ _)⟩
theorem at_sv {ss : List Str} {j : Int} (h0 : 0 ≤ j) (h1 : j < ss.length) : ∃ z, z ∈ ss ∧ atI (sv ss) j = some (V.str z) := by
  obtain ⟨n, rfl⟩ := Int.eq_ofNat_of_zero_le h0
  have hn : n < ss.length := by omega
  exact ⟨ss[n], List.getElem_mem hn, atI_nat (by rw [List.getElem?_map, List.getElem?_eq_getElem hn]; rfl)⟩
theorem sv_snoc' (l : List Str) (x : Str) : sv (l ++ [x]) = sv l ++ [V.str x] := List.map_append
theorem sv_app (a b : List Str) : sv a ++ sv b = sv (a ++ b) := List.map_append.symm
/-- texts that can be laid -/
abbrev Okz (z : Str) : Prop := PyData.canLay0 (.str z) = true
theorem okz_good {z : Str} (h : Good z) : Okz z := by
  show PyData.canLay0 (.str z) = true
  unfold PyData.canLay0 PyData.strOk
  rw [Array.all_eq_true]
  intro i hi
  have := h.let_ z.cps[i] (by rw [Array.mem_toList_iff]; exact Array.getElem_mem hi)
  exact decide_eq_true (by omega)
abbrev pd (ss : List Str) : List PyData := ss.map PyData.str
theorem lay_all {ss : List Str} (h : ∀ z ∈ ss, Okz z) : PyData.canLayAll0 (pd ss) = true := by
  induction ss with
  | nil => rfl
  | cons a t ih =>
    show (PyData.canLay0 (.str a) && PyData.canLayAll0 (pd t)) = true
    rw [h a List.mem_cons_self, ih fun z hz => h z (List.mem_cons_of_mem _ hz)]; rfl
theorem depth_pd : ∀ ss : List Str, PyData.depthAll (pd ss) ≤ 1
  | [] => by simp [PyData.depthAll]
  | n :: r => by
    have e : PyData.depthAll (r.map PyData.str) ≤ 1 := depth_pd r
    simp only [List.map_cons, PyData.depthAll, PyData.depth]
    omega
theorem shaped_pd {ss : List Str} (h : ∀ z ∈ ss, Okz z) : SeqAt.shaped (.list (pd ss)) = true := by
  have h1 := depth_pd ss
  show (PyData.canLay0 (.list (pd ss)) && decide (PyData.depth (.list (pd ss)) ≤ 64)) = true
  rw [Bool.and_eq_true]
  exact ⟨by simp only [PyData.canLay0]; exact lay_all h, decide_eq_true (by simp only [PyData.depth]; omega)⟩
theorem dp_pd {K : PySem.W.Frag} {H : Hp} : ∀ ss : List Str, DpAll K H (sv ss) (pd ss)
  | [] => .nil
  | s :: r => .cons (.str s) (dp_pd r)
theorem eqv_pd {ss : List Str} (h : ∀ z ∈ ss, Okz z) : PyData.eqv (.list (pd ss)) (.list (pd ss)) = true := SeqAt.eqv_refl _ (by simp only [PyData.canLay0]; exact lay_all h)
theorem dpAll_bl {K : PySem.W.Frag} {H : Hp} : ∀ bs : List Bool, DpAll K H (bs.map V.bl) (bs.map PyData.bool)
  | [] => .nil
  | b :: bs => .cons (.bl b) (dpAll_bl bs)
theorem exm_self {K : PySem.W.Frag} {C : Addr} (hb : PySem.W.subIn K (.ref C) (.type "BaseException") = some true) (hi : PySem.W.isClsIn K C = true) (ht : PySem.W.typeIn K (.ref C) = some (.type "type")) (hs : PySem.W.subIn K (.ref C) (.ref C) = some true) :
    PySem.W.exmOne K (.ref C) (.ref C) = some true := by
  unfold PySem.W.exmOne
  rw [hb, if_pos (by rfl)]
  show (if ((PySem.W.clsIn K C).isSome && PySem.W.typeIn K (.ref C) == some (.type "type")) = true then _ else _) = _
  rw [if_pos (by
    rw [ht]
    have : (PySem.W.clsIn K C).isSome = true := hi
    rw [this]; simp)]
  exact hs
section
variable {P : Program} {w : World} {K : PySem.W.Frag} {mg : Str → Option Value} {base : Heap} {A : Ad}
def spRow (K : PySem.W.Frag) : Sp := fun vs H Q _ => ∃ (c h p : Addr) (cs hs : List Str) (ns : List Int) (i : Int), vs = [.ref c, .ref h, .ref p, .int i] ∧ SqL K H c (sv cs) ∧ SqL K H h (sv hs) ∧ SqL K H p (ns.map V.int) ∧ 0 ≤ i ∧ i + 3 < ns.length ∧ cs.Nodup ∧ cs.length ≤ 12 ∧ hs.Nodup ∧ (∀ y ∈ hs, y ∈ cs) ∧ hs.length ≤ 12 ∧
  ∀ r ms H', Same H H' → H r = none → H' r = some (.lst (sv ms)) → ms.Nodup → (∀ y ∈ ms, y ∈ cs) → Q (.ref r) H'
theorem ok_row (T : Txt P K mg A) : FnOk P w K mg base CX0 2 A.a_law_row A.d_law_row ["columns", "hidden", "pool", "at"] (spRow K) := by
  have G_law_sequence := ok_seq (P := P) (w := w) (base := base) T
  refine T.F_law_row.ok sc_law_row (fun vs H Q E h => ?_) (fun cdv A' outer s H vs Q E hr h => ?_)
  · obtain ⟨c, h, p, cs, hs, ns, i, rfl, _⟩ := h
    rfl
  · obtain ⟨c, h, p, cs, hs, ns, i, rfl, hC, hH, hS, i0, i3, nc, hcl, nh, hsub, hhl, k⟩ := h
    refine ⟨_, (pss_cons (ps_set (i := 4) sc_law_row.nd rfl (Or.inl rfl) (pe_lst pa_nil))
      (pss_cons (ps_set (i := 5) sc_law_row.nd rfl (Or.inl rfl) (pe_callTy call_int1 (by rfl) T.n_int (by decide +kernel) (pa_cons (pe_ix ix_list (pv 2) (pe_op op_add (pv 3) pe_int) (fun _ _ => rfl)) pa_nil)))
      (pss_cons (ps_if (pt_cmpR op_eq (pe_op op_mod (pe_callTy call_int1 (by rfl) T.n_int (by decide +kernel) (pa_cons (pe_ix ix_list (pv 2) (pv 3) (fun _ _ => rfl)) pa_nil)) pe_int) pe_int (nomark _)) (pss_cons (ps_set (i := 6) sc_law_row.nd rfl (Or.inl rfl) (pe_op op_mod (pe_callTy call_int1 (by rfl) T.n_int (by decide +kernel) (pa_cons (pv 5) pa_nil)) (pe_op op_add (pe_callB call_len_seq (by rfl) T.n_len (by decide +kernel) (pa_cons (pv 1) pa_nil)) pe_int)))
      (pss_one (ps_set (i := 4) sc_law_row.nd rfl (Or.inl rfl) (pe_slice sl_list (pv 1) (po_some (pv 6)) (po_some (pe_op op_add (pv 6) (pe_op op_mod (pe_callTy call_int1 (by rfl) T.n_int (by decide +kernel) (pa_cons (pe_op op_fdiv (pv 5) pe_int) pa_nil)) (pe_op op_add (pe_callB call_len_seq (by rfl) T.n_len (by decide +kernel) (pa_cons (pv 1) pa_nil)) pe_int)))))))) (pss_one (ps_for PassesOwn.never rfl (pi_list (pv 0)) (pg_name (i := 7) sc_law_row.nd rfl (Or.inl rfl))
        (pss_cons (ps_if (pt_cmpR op_eq (pe_op op_mod (pe_callTy call_int1 (by rfl) T.n_int (by decide +kernel) (pa_cons (pv 5) pa_nil)) pe_int) pe_int (nomark _)) (pss_one (ps_expr (pe_bm PySem.F.plainAttrs_list PySem.F.slot_list_append PySem.F.type_list_append mt_append (pv 4) (pa_cons (pv 7) pa_nil)))) pss_nil)
      (pss_one (ps_set (i := 5) sc_law_row.nd rfl (Or.inl rfl) (pe_op op_fdiv (pv 5) pe_int)))))))
      (pss_one (ps_ret (pe_call G_law_sequence (hr.mono (by decide)) rfl T.mg_law_sequence T.F_law_sequence.kp T.b_law_sequence .nil pass0 (pa_cons (pv 4) (pa_cons (pe_op op_add (pe_op op_mul (pe_ix ix_list (pv 2) (pe_op op_add (pv 3) pe_int) (fun _ _ => rfl)) pe_int) (pe_ix ix_list (pv 2) (pe_op op_add (pv 3) pe_int) (fun _ _ => rfl))) pa_nil)))))))), ?_⟩
    obtain ⟨b0, _, e0⟩ := atI_ok (xs := ns) (j := i) (by omega) (by omega)
    obtain ⟨b, _, e1⟩ := atI_ok (xs := ns) (j := i + 1) (by omega) (by omega)
    obtain ⟨x2, _, e2⟩ := atI_ok (xs := ns) (j := i + 2) (by omega) (by omega)
    obtain ⟨x3, _, e3⟩ := atI_ok (xs := ns) (j := i + 3) (by omega) (by omega)
    refine ⟨by show 0 ≤ sizeLine; decide, fun a ha => ?_⟩
    have sa := same_new (o := .lst []) ha
    refine ⟨_, rfl, _, rfl, _, _, rfl, rfl, _, _, _, _, rfl, rfl, sa.seq hS, e1, .inl ⟨_, rfl, ?_⟩⟩
    have fin : ∀ (H4 : Hp) (q : Addr) (ys : List Str), Same H H4 → H4 q = some (.lst (sv ys)) → ys.Nodup → (∀ y ∈ ys, y ∈ cs) → ∃ l ns' d, [V.ref q, V.int (x2 * 27720 + x3)] = [.ref l, .int d] ∧ SqL K H4 l (sv ns') ∧ ns'.length ≤ 50 ∧ ∀ p ms H', Same H4 H' → H4 p = none → H' p = some (.lst (sv ms)) → ms.Perm ns' → Q (.ref p) H' := fun H4 q ys s4 hq nd sub =>
      ⟨q, ys, _, rfl, SqL.of hq, by have := nodup_le nd sub; omega, fun r ms H' s' hr hr' hp => k r ms H' (s4.trans s') (none_of s4 hr) hr' (hp.nodup_iff.mpr nd) fun y hy => sub y (hp.mem_iff.mp hy)⟩
    refine ⟨_, rfl, _, rfl, _, _, _, _, rfl, rfl, sa.seq hS, e0, .inl ⟨_, rfl, _, _, rfl, rfl, by show (0 : Int) < 2; decide, rfl, _, rfl, ite2 (fun hb => ?_) (fun hb => ?_)⟩⟩
    · have lp : (0 : Int) < ((sv hs).length : Int) + 1 := by omega
      refine ⟨_, rfl, .inl ⟨_, rfl, _, rfl, h, _, rfl, .inl (sa.seq hH), _, _, rfl, rfl, _, _, rfl, rfl, lp, ?_⟩⟩
      refine ⟨_, rfl, _, rfl, _, rfl, _, rfl, _, rfl, _, _, rfl, rfl, ⟨by decide, by decide⟩, .inl ⟨_, rfl, _, rfl, h, _, rfl, .inl (sa.seq hH), _, _, rfl, rfl, _, _, rfl, rfl, lp, _, _, rfl, rfl, _, rfl, h, _, rfl, sa.seq hH, fun a2 ha2 => ?_⟩⟩
      obtain ⟨zs, e, hzs⟩ := cut_sv hs (some (b % (((sv hs).length : Int) + 1))) (some (b % (((sv hs).length : Int) + 1) + b / 13 % (((sv hs).length : Int) + 1)))
      have s2 := sa.trans (same_new (o := .lst (cutV (sv hs) (some (b % (((sv hs).length : Int) + 1))) (some (b % (((sv hs).length : Int) + 1) + b / 13 % (((sv hs).length : Int) + 1))))) ha2)
      refine ⟨_, rfl, _, rfl, _, rfl, _, _, rfl, rfl, _, _, _, _, rfl, rfl, s2.seq hS, e2, _, _, rfl, rfl, .inr ⟨by decide, by decide⟩, _, rfl, _, rfl, _, _, rfl, rfl, _, _, _, _, rfl, rfl, s2.seq hS, e3, _, _, rfl, rfl, ?_⟩
      exact fin _ a2 zs s2 (by rw [upd_same]; exact congrArg (fun z => some (HO.lst z)) e) (hzs.nodup nh) fun y hy => hsub y (hzs.subset hy)
    · refine ⟨_, rfl, c, rfl, ⟨_, sa.seq hC⟩, for_it walk_list (fun j σ H4 => Same H H4 ∧ ∃ (ys : List Str) (lf : Int) (u7 : Option V), σ = [some (.ref c), some (.ref h), some (.ref p), some (.int i), some (.ref a), some (.int lf), none, u7] ∧ H4 a = some (.lst (sv ys)) ∧ ys.Sublist (cs.take j))
        ⟨sa, [], b, none, rfl, upd_same, List.nil_sublist _⟩ (fun j σ H4 _ q => q.1.seq hC) ?_ ?_⟩
      · rintro j x σ H40 H4 hi ⟨s4, ys, lf, u7, rfl, h4, hys⟩ ⟨rfl, hx⟩
        obtain ⟨z, hz, rfl⟩ := sv_get hx
        have hyl := hys.length_le
        rw [List.length_take] at hyl
        refine ⟨_, rfl, .inl ⟨_, rfl, _, _, rfl, rfl, by show (0 : Int) < 2; decide, rfl, _, rfl, ite2 (fun hb => ?_) (fun hb => ?_)⟩⟩
        · refine ⟨_, rfl, .inl ⟨rfl, _, SqL.of h4⟩, _, rfl, a, _, _, rfl, rfl, h4, small_int (by rw [len_sv]; omega), ?_⟩
          refine ⟨_, rfl, _, _, rfl, rfl, ⟨by decide, by decide⟩, fun c' o' e => ?_, ys ++ [z], _, _, rfl, ?_, ?_⟩
          · rw [upd_ne (ne_of_none e ha)]; exact s4 _ _ e
          · rw [sv_snoc']; exact upd_same
          · rw [take_succ hz]; exact hys.append (List.Sublist.refl _)
        · refine ⟨_, rfl, _, _, rfl, rfl, ⟨by decide, by decide⟩, s4, ys, _, _, rfl, h4, ?_⟩
          rw [take_succ hz]; exact hys.trans (List.sublist_append_left _ _)
      rintro σ H4 ⟨s4, ys, lf, u7, rfl, h4, hys⟩
      rw [len_sv, List.take_length] at hys
      refine ⟨_, rfl, _, rfl, _, rfl, _, _, rfl, rfl, _, _, _, _, rfl, rfl, s4.seq hS, e2, _, _, rfl, rfl, .inr ⟨by decide, by decide⟩, _, rfl, _, rfl, _, _, rfl, rfl, _, _, _, _, rfl, rfl, s4.seq hS, e3, _, _, rfl, rfl, ?_⟩
      exact fin _ a ys s4 h4 (hys.nodup nc) fun y hy => hys.subset hy
def spMisfit (K : PySem.W.Frag) : Sp := fun vs H Q _ => ∃ (c o : Addr) (cs ns : List Str), vs = [.ref c, .ref o] ∧ SqL K H c (sv cs) ∧ SqL K H o (sv ns) ∧ cs.length ≤ 1000 ∧ ns.length ≤ 1000 ∧ ∀ H', Same H H' → Q (optV (fault cs ns)) H'
theorem ok_misfit (T : Txt P K mg A) : FnOk P w K mg base CX0 1 A.a_law_misfit A.d_law_misfit ["columns", "order"] (spMisfit K) := by
  refine T.F_law_misfit.ok sc_law_misfit (fun vs H Q E h => ?_) (fun cdv A' outer s H vs Q E hr h => ?_)
  · obtain ⟨c, o, cs, ns, rfl, _⟩ := h
    rfl
  · obtain ⟨c, o, cs, ns, rfl, hC, hO, hcl, hnl, k⟩ := h
    refine ⟨_, (pss_cons (ps_for PassesOwn.never rfl (pi_range1 (by rfl) T.n_range (pa_cons (pe_op op_add (pe_callB call_len_seq (by rfl) T.n_len (by decide +kernel) (pa_cons (pv 0) pa_nil)) (pe_callB call_len_seq (by rfl) T.n_len (by decide +kernel) (pa_cons (pv 1) pa_nil))) pa_nil)) (pg_name (i := 2) sc_law_misfit.nd rfl (Or.inl rfl))
        (pss_cons (ps_if (PW.pt (pw_and (pt_cmpR op_ge (pv 2) (pe_callB call_len_seq (by rfl) T.n_len (by decide +kernel) (pa_cons (pv 0) pa_nil)) (nomark _)) (pw_and1 (pt_cmpR op_ge (pv 2) (pe_callB call_len_seq (by rfl) T.n_len (by decide +kernel) (pa_cons (pv 1) pa_nil)) (nomark _))))) (pss_one (ps_ret pe_non)) pss_nil)
      (pss_one (ps_if (PW.pt (pw_or (pt_cmpR op_ge (pv 2) (pe_callB call_len_seq (by rfl) T.n_len (by decide +kernel) (pa_cons (pv 1) pa_nil)) (nomark _)) (pw_or (pt_cmpR op_notIn_seq (pe_ix ix_list (pv 1) (pv 2) (fun _ _ => rfl)) (pv 0) (by with_unfolding_all rfl)) (pw_or1 (pt_cmpR op_in_seq (pe_ix ix_list (pv 1) (pv 2) (fun _ _ => rfl)) (pe_slice sl_list (pv 1) po_none (po_some (pv 2))) (by with_unfolding_all rfl)))))) (pss_one (ps_ret (pv 2))) pss_nil))))
      (pss_one (ps_ret pe_non))), ?_⟩
    have lc := len_sv cs
    have ln := len_sv ns
    refine ⟨_, rfl, c, _, rfl, .inl hC, _, rfl, o, _, rfl, .inl hO, _, _, rfl, rfl, _, rfl, by omega, by omega, ?_⟩
    have e1 : (((sv cs).length : Int) + ((sv ns).length : Int)).toNat = cs.length + ns.length := by omega
    have done : ∀ j, (∀ i, i < j → i < ns.length ∧ badAt cs ns i = false) → ns.length ≤ j → stray cs ns = none := fun j h hj => stray_none fun i hi => (h i (by omega)).2
    refine for_range (n := (((sv cs).length : Int) + ((sv ns).length : Int)).toNat) (fun j σ H2 => Same H H2 ∧ (∀ i, i < j → i < ns.length ∧ badAt cs ns i = false) ∧ ∃ u : Option V, σ = [some (.ref c), some (.ref o), u]) ⟨Same.refl _, fun i hi => absurd hi (Nat.not_lt_zero _), none, rfl⟩ ?_ ?_
    · rintro j σ H2 hj ⟨s2, hall, u, rfl⟩
      have hj0 : (0 : Int) + (j : Int) = (j : Int) := by omega
      refine ⟨_, rfl, _, rfl, c, _, rfl, .inl (s2.seq hC), _, _, rfl, rfl, _, rfl, ?_⟩
      have retN : cs.length ≤ j → ns.length ≤ j → fault cs ns = none := fun h1 h2 => by
        unfold fault
        rw [done j hall h2]
        show (if ns.length < cs.length then _ else _) = _
        have : j ≤ ns.length := by
          rcases Nat.eq_zero_or_pos j with z | z
          · omega
          · have := (hall (j - 1) (by omega)).1; omega
        rw [if_neg (by omega)]
      have jn : j ≤ ns.length := by
        rcases Nat.eq_zero_or_pos j with z | z
        · omega
        · have := (hall (j - 1) (by omega)).1; omega
      have bad : ∀ hn : j < ns.length, badAt cs ns j = (!decide (ns[j] ∈ cs) || decide (ns[j] ∈ ns.take j)) := fun hn => by unfold badAt; rw [List.getElem?_eq_getElem hn]
      have go : (decide (((sv ns).length : Int) ≤ 0 + (j : Int)) = true ∨ decide (((sv ns).length : Int) ≤ 0 + (j : Int)) = false) := by cases decide (((sv ns).length : Int) ≤ 0 + (j : Int)) <;> simp
      have second : ¬ (cs.length ≤ j ∧ ns.length ≤ j) → ns.length ≤ j → fault cs ns = some j := fun h1 h2 => by
        unfold fault
        rw [done j hall h2]
        show (if ns.length < cs.length then _ else _) = _
        rw [if_pos (by omega), Nat.le_antisymm h2 jn]
      by_cases h1 : cs.length ≤ j
      · refine itY (by omega) ⟨_, rfl, _, rfl, o, _, rfl, .inl (s2.seq hO), _, _, rfl, rfl, _, rfl, ?_⟩
        by_cases h2 : ns.length ≤ j
        · refine itY (by omega) ?_
          rw [retN h1 h2] at k
          exact k H2 s2
        · refine itN (by omega) ?_
          refine ⟨_, rfl, _, rfl, o, _, rfl, .inl (s2.seq hO), _, _, rfl, rfl, _, rfl, ?_⟩
          by_cases h3 : ns.length ≤ j
          · refine itY (by omega) (ifT rfl ⟨_, rfl, ?_⟩)
            rw [second (fun z => h2 z.2) h3] at k
            rw [hj0]
            exact k H2 s2
          · refine itN (by omega) ?_
            have hn : j < ns.length := by omega
            have hz : ns[j]? = some ns[j] := List.getElem?_eq_getElem hn
            have at1 : atI (sv ns) (0 + (j : Int)) = some (V.str ns[j]) := by rw [hj0]; exact atI_nat (by rw [List.getElem?_map, hz]; rfl)
            refine ⟨_, rfl, _, rfl, o, _, _, _, rfl, rfl, s2.seq hO, at1, _, rfl, c, _, rfl, .inl (s2.seq hC), rfl, flat_sv _, _, rfl, ?_⟩
            rw [if_pos (rfl : true = true), inV_str]
            by_cases hc : ns[j] ∈ cs
            · refine ifF (by rw [decide_eq_true hc]; rfl) ?_
              refine ⟨_, rfl, _, rfl, o, _, _, _, rfl, rfl, s2.seq hO, at1, _, rfl, _, rfl, _, rfl, o, _, rfl, s2.seq hO, fun t ht => ?_⟩
              have st := s2.trans (same_new (o := .lst (cutV (sv ns) none (some (0 + (j : Int))))) ht)
              have ht' : upd H2 t (.lst (cutV (sv ns) none (some (0 + (j : Int))))) t = some (.lst (sv (ns.take j))) := by
                rw [upd_same, hj0, cut_take (by rw [len_sv]; omega), sv_take]
              refine ⟨t, _, rfl, .inl (SqL.of ht'), rfl, flat_sv _, _, rfl, ?_⟩
              rw [if_neg Bool.false_ne_true, inV_str]
              by_cases hm : ns[j] ∈ ns.take j
              · refine ifT (decide_eq_true hm) ⟨_, rfl, ?_⟩
                have e := stray_some (cs := cs) hn (by rw [bad hn, decide_eq_true hm, Bool.or_true]) fun i hi => (hall i hi).2
                have : fault cs ns = some j := by unfold fault; rw [e]
                rw [this] at k
                rw [hj0]
                rw [hj0] at st
                exact k _ st
              · refine ifF (decide_eq_false hm) ⟨st, fun i hi => ?_, _, rfl⟩
                rcases Nat.lt_succ_iff_lt_or_eq.mp hi with q | q
                · exact hall i q
                · subst q; exact ⟨hn, by rw [bad hn, decide_eq_true hc, decide_eq_false hm]; rfl⟩
            · refine ifT (by rw [decide_eq_false hc]; rfl) (ifT rfl ⟨_, rfl, ?_⟩)
              have e := stray_some (cs := cs) hn (by rw [bad hn, decide_eq_false hc]; rfl) fun i hi => (hall i hi).2
              have : fault cs ns = some j := by unfold fault; rw [e]
              rw [this] at k
              rw [hj0]
              exact k H2 s2
      · refine itN (by omega) (iteF ?_)
        refine ⟨_, rfl, _, rfl, o, _, rfl, .inl (s2.seq hO), _, _, rfl, rfl, _, rfl, ?_⟩
        by_cases h3 : ns.length ≤ j
        · refine itY (by omega) (ifT rfl ⟨_, rfl, ?_⟩)
          rw [second (fun z => h1 z.1) h3] at k
          rw [hj0]
          exact k H2 s2
        · refine itN (by omega) ?_
          have hn : j < ns.length := by omega
          have hz : ns[j]? = some ns[j] := List.getElem?_eq_getElem hn
          have at1 : atI (sv ns) (0 + (j : Int)) = some (V.str ns[j]) := by rw [hj0]; exact atI_nat (by rw [List.getElem?_map, hz]; rfl)
          refine ⟨_, rfl, _, rfl, o, _, _, _, rfl, rfl, s2.seq hO, at1, _, rfl, c, _, rfl, .inl (s2.seq hC), rfl, flat_sv _, _, rfl, ?_⟩
          rw [if_pos (rfl : true = true), inV_str]
          by_cases hc : ns[j] ∈ cs
          · refine ifF (by rw [decide_eq_true hc]; rfl) ?_
            refine ⟨_, rfl, _, rfl, o, _, _, _, rfl, rfl, s2.seq hO, at1, _, rfl, _, rfl, _, rfl, o, _, rfl, s2.seq hO, fun t ht => ?_⟩
            have st := s2.trans (same_new (o := .lst (cutV (sv ns) none (some (0 + (j : Int))))) ht)
            have ht' : upd H2 t (.lst (cutV (sv ns) none (some (0 + (j : Int))))) t = some (.lst (sv (ns.take j))) := by
              rw [upd_same, hj0, cut_take (by rw [len_sv]; omega), sv_take]
            refine ⟨t, _, rfl, .inl (SqL.of ht'), rfl, flat_sv _, _, rfl, ?_⟩
            rw [if_neg Bool.false_ne_true, inV_str]
            by_cases hm : ns[j] ∈ ns.take j
            · refine ifT (decide_eq_true hm) ⟨_, rfl, ?_⟩
              have e := stray_some (cs := cs) hn (by rw [bad hn, decide_eq_true hm, Bool.or_true]) fun i hi => (hall i hi).2
              have : fault cs ns = some j := by unfold fault; rw [e]
              rw [this] at k
              rw [hj0]
              rw [hj0] at st
              exact k _ st
            · refine ifF (decide_eq_false hm) ⟨st, fun i hi => ?_, _, rfl⟩
              rcases Nat.lt_succ_iff_lt_or_eq.mp hi with q | q
              · exact hall i q
              · subst q; exact ⟨hn, by rw [bad hn, decide_eq_true hc, decide_eq_false hm]; rfl⟩
          · refine ifT (by rw [decide_eq_false hc]; rfl) (ifT rfl ⟨_, rfl, ?_⟩)
            have e := stray_some (cs := cs) hn (by rw [bad hn, decide_eq_false hc]; rfl) fun i hi => (hall i hi).2
            have : fault cs ns = some j := by unfold fault; rw [e]
            rw [this] at k
            rw [hj0]
            exact k H2 s2
    · rintro σ H2 ⟨s2, hall, u, rfl⟩
      have h0 : cs.length = 0 ∧ True := ⟨by
        rcases Nat.eq_zero_or_pos cs.length with z | z
        · exact z
        · have := (hall (cs.length + ns.length - 1) (by omega)).1; omega, trivial⟩
      have : fault cs ns = none := by
        unfold fault
        rw [done _ hall (by omega)]
        show (if ns.length < cs.length then _ else _) = _
        rw [if_neg (by omega)]
      rw [this] at k
      exact k H2 s2
end
end My
set_option maxRecDepth 100000
set_option maxHeartbeats 4000000
set_option exponentiation.threshold 10000
namespace My
open PySem L2
open C8 (pss_cut)
section
variable {P : Program} {w : World} {K : PySem.W.Frag} {mg : Str → Option Value} {base : Heap} {A : Ad}
def spIsCount : Sp := fun vs H Q _ => ∃ i j : Int, vs = [.int i, .int j] ∧ Q (.bl (decide (i = j))) H
theorem ok_isCount (T : Txt P K mg A) : FnOk P w K mg base CX0 1 A.a_law_is_count A.d_law_is_count ["value", "due"] spIsCount := by
  refine T.F_law_is_count.ok sc_law_is_count (fun vs H Q E h => ?_) (fun cdv A' outer s H vs Q E hr h => ?_)
  · obtain ⟨i, j, rfl, _⟩ := h
    rfl
  · obtain ⟨i, j, rfl, k⟩ := h
    refine ⟨_, (pss_one (ps_ret (pe_and (pe_callB call_isi (by rfl) T.n_isinstance (by decide +kernel) (pa_cons (pv 0) (pa_cons (pe_bltn (v := .ty "int") (by rfl) T.n_int (by decide +kernel) rfl) pa_nil))) (pe_and (pe_not (pe_callB call_isi (by rfl) T.n_isinstance (by decide +kernel) (pa_cons (pv 0) (pa_cons (pe_bltn (v := .ty "bool") (by rfl) T.n_bool (by decide +kernel) rfl) pa_nil)))) (pe_one (pe_cmpR op_eq (pv 0) (pv 1) (nomark _))))))), ?_⟩
    refine ⟨_, rfl, _, _, _, _, true, rfl, .ty _, .base (.int _), kit_ty (by decide +kernel), true, rfl, iteT ?_⟩
    refine ⟨_, rfl, _, _, _, _, false, rfl, .ty _, .base (.int _), kit_ty (by decide +kernel), false, rfl, true, rfl, iteT ?_⟩
    refine ⟨_, rfl, _, rfl, rfl, ?_⟩
    rw [show decide (V.int i = V.int j) = decide (i = j) from decide_eq_decide.mpr ⟨fun e => V.int.inj e, fun e => by rw [e]⟩]
    exact k
def spCalled (K : PySem.W.Frag) (C B U : Addr) : Sp := fun vs H Q E => ∃ (way : Int) (p l : Addr) (i : Int) (cs : List Str) (rs : List (List Str)) (ns : List Str), vs = [.int way, .ref p, .ref l, .int i] ∧ Tb C H p cs rs ∧ SqL K H l (sv ns) ∧ ns.length ≤ 1000 ∧
  ((∃ j, fault cs ns = some j ∧ ∀ d H', Same H H' → H' d = some (.xd [("index", .int (j : Nat))]) → E (.ref B) (some d) H') ∨
   (fault cs ns = none ∧ (way = 0 ∨ way = 1) ∧ ¬ (0 ≤ i ∧ i < rs.length) ∧ i.natAbs < 1000000 ∧ ∀ d H', Same H H' → H' d = some (.xd [("number", .int i)]) → E (.ref U) (some d) H'))
theorem ok_called (T : Txt P K mg A) : FnOk P w K mg base (L2.CX P w) 6 A.a_law_called A.d_law_called ["way", "table", "order", "number"] (spCalled K A.C_Table A.C_BadOrder A.C_UnknownRow) := by
  have GX_run_count := ok_runCX (P := P) (w := w) (base := base) T
  have GX_extent := ok_extX (P := P) (w := w) (base := base) T
  have GX_broken := ok_brokenX (P := P) (w := w) (base := base) T
  have GX_gap_rows := ok_gapsX (P := P) (w := w) (base := base) T
  have GX_check_order := ok_checkX (P := P) (w := w) (base := base) T
  refine funX T.F_law_called sc_law_called (fun vs H Q E h => ?_) (fun cdv A' outer s H vs Q E hr h => ?_)
  · obtain ⟨way, p, l, i, cs, rs, ns, rfl, _⟩ := h
    rfl
  · obtain ⟨way, p, l, i, cs, rs, ns, rfl, hT, hO, hl, hk⟩ := h
    refine ⟨_, (pss_cons (ps_if (pt_cmpR op_eq (pv 0) pe_int (nomark _)) (pss_one (ps_ret (pe_callS GX_run_count (hr.mono (by decide)) rfl T.mg_run_count T.F_run_count.kp T.b_run_count (fun σ => passAt (takes_of rfl rfl rfl rfl) σ) (pa_cons (pv 1) (pa_cons (pv 2) (pa_cons (pv 3) pa_nil)))))) pss_nil)
      (pss_cons (ps_if (pt_cmpR op_eq (pv 0) pe_int (nomark _)) (pss_one (ps_ret (pe_callS GX_extent (hr.mono (by decide)) rfl T.mg_extent T.F_extent.kp T.b_extent (fun σ => passAt (takes_of rfl rfl rfl rfl) σ) (pa_cons (pv 1) (pa_cons (pv 2) (pa_cons (pv 3) pa_nil)))))) pss_nil)
      (pss_cons (ps_if (pt_cmpR op_eq (pv 0) pe_int (nomark _)) (pss_one (ps_ret (pe_callS GX_broken (hr.mono (by decide)) rfl T.mg_broken T.F_broken.kp T.b_broken (fun σ => passAt (takes_of rfl rfl rfl rfl) σ) (pa_cons (pv 1) (pa_cons (pv 2) pa_nil))))) pss_nil)
      (pss_cons (ps_if (pt_cmpR op_eq (pv 0) pe_int (nomark _)) (pss_one (ps_ret (pe_callS GX_gap_rows (hr.mono (by decide)) rfl T.mg_gap_rows T.F_gap_rows.kp T.b_gap_rows (fun σ => passAt (takes_of rfl rfl rfl rfl) σ) (pa_cons (pv 1) (pa_cons (pv 2) pa_nil))))) pss_nil)
      (pss_one (ps_ret (pe_callS GX_check_order (hr.mono (by decide)) rfl T.mg_check_order T.F_check_order.kp T.b_check_order (fun σ => passAt (takes_of rfl rfl rfl rfl) σ) (pa_cons (pv 1) (pa_cons (pv 2) pa_nil))))))))), ?_⟩
    have hk' : (∃ j, fault cs ns = some j ∧ ∀ d H', Same H H' → H' d = some (.xd [("index", .int (j : Nat))]) → E (.ref A.C_BadOrder) (some d) H') ∨
      (fault cs ns = none ∧ ¬ (0 ≤ i ∧ i < rs.length) ∧ i.natAbs < 1000000 ∧ ∀ d H', Same H H' → H' d = some (.xd [("number", .int i)]) → E (.ref A.C_UnknownRow) (some d) H') := by
      rcases hk with h | ⟨a, _, b⟩
      · exact .inl h
      · exact .inr ⟨a, b⟩
    by_cases w0 : way = 0
    · subst w0
      exact ⟨_, rfl, rfl, _, rfl, itY rfl ⟨_, rfl, _, rfl, _, rfl, p, l, i, cs, rs, ns, rfl, hT, hO, hl, hk'⟩⟩
    refine ⟨_, rfl, rfl, _, rfl, itN (fun e => w0 (V.int.inj e)) ?_⟩
    by_cases w1 : way = 1
    · subst w1
      exact ⟨_, rfl, rfl, _, rfl, itY rfl ⟨_, rfl, _, rfl, _, rfl, p, l, i, cs, rs, ns, rfl, hT, hO, hl, hk'⟩⟩
    refine ⟨_, rfl, rfl, _, rfl, itN (fun e => w1 (V.int.inj e)) ?_⟩
    obtain ⟨j, hj, k⟩ : ∃ j, fault cs ns = some j ∧ ∀ d H', Same H H' → H' d = some (.xd [("index", .int (j : Nat))]) → E (.ref A.C_BadOrder) (some d) H' := by
      rcases hk with h | ⟨_, a, _⟩
      · exact h
      · rcases a with a | a
        · exact absurd a w0
        · exact absurd a w1
    refine ⟨_, rfl, rfl, _, rfl, ite2 (fun hb => ⟨_, rfl, _, rfl, p, l, cs, rs, ns, j, rfl, hT, hO, hl, hj, k⟩) (fun hb => ?_)⟩
    refine ⟨_, rfl, rfl, _, rfl, ite2 (fun hb => ⟨_, rfl, _, rfl, p, l, cs, rs, ns, j, rfl, hT, hO, hl, hj, k⟩) (fun hb => ?_)⟩
    exact ⟨_, rfl, _, rfl, p, l, cs, rs, ns, j, rfl, hT, hO, hl, hj, k⟩
/-- a list that is no order is refused in each way -/
def spRefused (C : Addr) (K : PySem.W.Frag) : Sp := fun vs H Q _ => ∃ (way : Int) (p o : Addr) (i : Int) (j : Nat) (cs : List Str) (rs : List (List Str)) (ns : List Str), vs = [.int way, .ref p, .ref o, .int i, .int (j : Nat)] ∧ Tb C H p cs rs ∧ SqL K H o (sv ns) ∧ ns.length ≤ 1000 ∧ (∀ z ∈ ns, Okz z) ∧ fault cs ns = some j ∧ ∀ H', Same H H' → Q (.bl true) H'
theorem ok_refused (T : Txt P K mg A) : FnOk P w K mg base CX0 7 A.a_law_refused A.d_law_refused ["way", "table", "order", "number", "index"] (spRefused A.C_Table K) := by
  have GX_law_called := ok_called (P := P) (w := w) (base := base) T
  have G_law_is_count := ok_isCount (P := P) (w := w) (base := base) T
  refine T.F_law_refused.ok sc_law_refused (fun vs H Q E h => ?_) (fun cdv A' outer s H vs Q E hr h => ?_)
  · obtain ⟨way, p, o, i, j, cs, rs, ns, rfl, _⟩ := h
    rfl
  · obtain ⟨way, p, o, i, j, cs, rs, ns, rfl, hT, hO, hl, hz, hf, k⟩ := h
    refine ⟨_, (pss_cons (ps_set (i := 5) sc_law_refused.nd rfl (Or.inl rfl) (pe_callTy call_list_of (by rfl) T.n_list (by decide +kernel) (pa_cons (pv 2) pa_nil)))
      (pss_cons (ps_set (i := 6) sc_law_refused.nd rfl (Or.inl rfl) pe_str)
      (pss_cons (ps_set (i := 7) sc_law_refused.nd rfl (Or.inl rfl) pe_non)
      (pss_cons (ps_set (i := 8) sc_law_refused.nd rfl (Or.inl rfl) (pe_lst pa_nil))
      (pss_cons (ps_try_as (i := 9) (Wout := fun _ _ _ _ => False) rfl rfl sc_law_refused.nd rfl rfl ⟨rfl, by decide, .inl T.mg_BadOrder⟩ takes0 (fun W pn xe tk _ => (pss_one (ps_set (i := 6) sc_law_refused.nd rfl (Or.inl rfl) (pe_callS GX_law_called (hr.mono (by decide)) rfl T.mg_law_called T.F_law_called.kp T.b_law_called (fun σ => passAt tk σ) (pa_cons (pv 0) (pa_cons (pv 1) (pa_cons (pv 5) (pa_cons (pv 3) pa_nil)))))))) (fun a oe cls d pn hz hf => (pss_cons (ps_set (i := 7) sc_law_refused.nd rfl (Or.inl rfl) (pe_xf T.xf_BadOrder T.xn_BadOrder_index hz hf (pv 9)))
      (pss_one (ps_set (i := 8) sc_law_refused.nd rfl (Or.inl rfl) (pe_lst (pa_cons (pe_callB (call_isExD hz hf) (by rfl) T.n_isinstance (by decide +kernel) (pa_cons (pv 9) (pa_cons (pe_glob (v := .ref A.C_RowsError) rfl T.mg_RowsError rfl) pa_nil))) (pa_cons (pe_callB (call_isExD hz hf) (by rfl) T.n_isinstance (by decide +kernel) (pa_cons (pv 9) (pa_cons (pe_bltn (v := .ty "ValueError") (by rfl) T.n_ValueError (by decide +kernel) rfl) pa_nil))) (pa_cons (pe_callB (call_isExD hz hf) (by rfl) T.n_isinstance (by decide +kernel) (pa_cons (pv 9) (pa_cons (pe_glob (v := .ref A.C_Unknown) rfl T.mg_Unknown rfl) pa_nil))) (pa_cons (pe_callB (call_isExD hz hf) (by rfl) T.n_isinstance (by decide +kernel) (pa_cons (pv 9) (pa_cons (pe_glob (v := .ref A.C_Impossible) rfl T.mg_Impossible rfl) pa_nil))) pa_nil))))))))))
      (pss_one (ps_ret (pe_and (pe_cmpR op_eq (pv 6) pe_str (nomark _)) (pe_and (pe_cmpR (op_eqD hr.units) (pv 5) (pv 2) (nomark _)) (pe_and (pe_cmpR (op_eqD hr.units) (pv 8) (pe_lst (pa_cons pe_bl (pa_cons pe_bl (pa_cons pe_bl (pa_cons pe_bl pa_nil))))) (nomark _)) (pe_one (pe_call G_law_is_count (hr.mono (by decide)) rfl T.mg_law_is_count T.F_law_is_count.kp T.b_law_is_count .nil pass0 (pa_cons (pv 7) (pa_cons (pv 4) pa_nil)))))))))))))), ?_⟩
    refine ⟨_, rfl, o, _, rfl, .inl hO, fun g hg => ?_⟩
    have sg := same_new (o := .lst (sv ns)) hg
    have hg1 := upd_same (H := H) (a := g) (o := .lst (sv ns))
    generalize upd H g _ = H1 at sg hg1 ⊢
    refine ⟨by show 0 ≤ sizeLine; decide, fun l hl' => ?_⟩
    have s1 := sg.trans (same_new (o := .lst []) hl')
    have hg2 := same_new (o := .lst []) hl' _ _ hg1
    generalize upd H1 l _ = H2 at s1 hg2 ⊢
    refine ⟨_, rfl, _, rfl, _, rfl, _, rfl, way, p, g, i, cs, rs, ns, rfl, hT.same s1, SqL.of hg2, hl, .inl ⟨j, hf, fun d H6 s6 hd => ?_⟩⟩
    refine ⟨true, exm_self T.bp_BadOrder T.ic_BadOrder T.tp_BadOrder T.ss_BadOrder, fun _ e he => ?_, fun q => nomatch q⟩
    have hne : A.C_BadOrder ≠ A.C_Unknown ∧ A.C_BadOrder ≠ A.C_Impossible := by
      refine ⟨fun e => ?_, fun e => ?_⟩
      · have z := T.su_BadOrder_Unknown
        rw [← e, T.ss_BadOrder] at z; cases z
      · have z := T.su_BadOrder_Impossible
        rw [← e, T.ss_BadOrder] at z; cases z
    have k1 : PySem.W.kitOne K (.ref A.C_BadOrder) (.ref A.C_RowsError) = some true := kit_own T.ic_RowsError T.tp_RowsError T.su_BadOrder_RowsError (.inr rfl)
    have k2 : PySem.W.kitOne K (.ref A.C_BadOrder) (.type "ValueError") = some true := kit_ownT (by decide +kernel) T.sv_BadOrder
    have k3 : PySem.W.kitOne K (.ref A.C_BadOrder) (.ref A.C_Unknown) = some false := kit_own T.ic_Unknown T.tp_Unknown T.su_BadOrder_Unknown (.inl hne.1)
    have k4 : PySem.W.kitOne K (.ref A.C_BadOrder) (.ref A.C_Impossible) = some false := kit_own T.ic_Impossible T.tp_Impossible T.su_BadOrder_Impossible (.inl hne.2)
    have s16 := s1.trans s6
    have hg6 := s6 _ _ hg2
    refine ⟨_, rfl, rfl, rfl, d, _, _, rfl, hd, rfl, ?_⟩
    refine ⟨_, rfl, _, _, _, rfl, rfl, hd, T.ec_BadOrder, _, _, true, rfl, fun _ h => h, k1, ?_⟩
    refine ⟨_, rfl, _, _, _, rfl, rfl, hd, T.ec_BadOrder, _, _, true, rfl, fun _ h => h, k2, ?_⟩
    refine ⟨_, rfl, _, _, _, rfl, rfl, hd, T.ec_BadOrder, _, _, false, rfl, fun _ h => h, k3, ?_⟩
    refine ⟨_, rfl, _, _, _, rfl, rfl, hd, T.ec_BadOrder, _, _, false, rfl, fun _ h => h, k4, ?_⟩
    refine ⟨by show 4 ≤ sizeLine; decide, fun l1 hl1 => ?_⟩
    have sl1 := same_new (o := .lst [V.bl true, .bl true, .bl false, .bl false]) hl1
    refine ⟨_, rfl, rfl, true, congrArg V.bl (decide_eq_true rfl), iteT ?_⟩
    refine ⟨_, rfl, _, rfl, .list (pd ns), .list (pd ns), .lst (xs := sv ns) (SqL.of (sl1 _ _ hg6)) (dp_pd ns), .lst (xs := sv ns) ((s16.trans sl1).seq hO) (dp_pd ns), shaped_pd hz, shaped_pd hz, true, congrArg V.bl (eqv_pd hz), iteT ?_⟩
    refine ⟨_, rfl, by show 4 ≤ sizeLine; decide, fun l2 hl2 => ?_⟩
    have h12 := same_new (o := .lst [V.bl true, .bl true, .bl false, .bl false]) hl2 _ _ (upd_same (H := H6) (a := l1) (o := .lst [V.bl true, .bl true, .bl false, .bl false]))
    refine ⟨.list ([true, true, false, false].map PyData.bool), .list ([true, true, false, false].map PyData.bool), .lst (xs := [true, true, false, false].map V.bl) (SqL.of h12) (dpAll_bl _), .lst (xs := [true, true, false, false].map V.bl) (SqL.of upd_same) (dpAll_bl _), by decide +kernel, by decide +kernel, true, congrArg V.bl (by decide +kernel), iteT ?_⟩
    refine ⟨_, rfl, _, rfl, _, _, rfl, ?_⟩
    rw [decide_eq_true rfl]
    exact k _ (s16.trans (sl1.trans (same_new hl2)))
def spNoRow (C : Addr) (K : PySem.W.Frag) : Sp := fun vs H Q _ => ∃ (way : Int) (p o : Addr) (i : Int) (cs : List Str) (rs : List (List Str)) (ns : List Str), vs = [.int way, .ref p, .ref o, .int i] ∧ Tb C H p cs rs ∧ SqL K H o (sv ns) ∧ ns.length ≤ 1000 ∧ fault cs ns = none ∧ (way = 0 ∨ way = 1) ∧ ¬ (0 ≤ i ∧ i < rs.length) ∧ i.natAbs < 1000000 ∧ ∀ H', Same H H' → Q (.bl true) H'
theorem ok_noRow (T : Txt P K mg A) : FnOk P w K mg base CX0 7 A.a_law_no_row A.d_law_no_row ["way", "table", "order", "number"] (spNoRow A.C_Table K) := by
  have GX_law_called := ok_called (P := P) (w := w) (base := base) T
  have G_law_is_count := ok_isCount (P := P) (w := w) (base := base) T
  refine T.F_law_no_row.ok sc_law_no_row (fun vs H Q E h => ?_) (fun cdv A' outer s H vs Q E hr h => ?_)
  · obtain ⟨way, p, o, i, cs, rs, ns, rfl, _⟩ := h
    rfl
  · obtain ⟨way, p, o, i, cs, rs, ns, rfl, hT, hO, hl, hf, hw, hout, hi, k⟩ := h
    refine ⟨_, (pss_cons (ps_set (i := 4) sc_law_no_row.nd rfl (Or.inl rfl) pe_str)
      (pss_cons (ps_set (i := 5) sc_law_no_row.nd rfl (Or.inl rfl) pe_non)
      (pss_cons (ps_set (i := 6) sc_law_no_row.nd rfl (Or.inl rfl) (pe_lst pa_nil))
      (pss_cons (ps_try_as (i := 7) (Wout := fun _ _ _ _ => False) rfl rfl sc_law_no_row.nd rfl rfl ⟨rfl, by decide, .inl T.mg_UnknownRow⟩ takes0 (fun W pn xe tk _ => (pss_one (ps_set (i := 4) sc_law_no_row.nd rfl (Or.inl rfl) (pe_callS GX_law_called (hr.mono (by decide)) rfl T.mg_law_called T.F_law_called.kp T.b_law_called (fun σ => passAt tk σ) (pa_cons (pv 0) (pa_cons (pv 1) (pa_cons (pv 2) (pa_cons (pv 3) pa_nil)))))))) (fun a oe cls d pn hz hf => (pss_cons (ps_set (i := 5) sc_law_no_row.nd rfl (Or.inl rfl) (pe_xf T.xf_UnknownRow T.xn_UnknownRow_number hz hf (pv 7)))
      (pss_one (ps_set (i := 6) sc_law_no_row.nd rfl (Or.inl rfl) (pe_lst (pa_cons (pe_callB (call_isExD hz hf) (by rfl) T.n_isinstance (by decide +kernel) (pa_cons (pv 7) (pa_cons (pe_glob (v := .ref A.C_RowsError) rfl T.mg_RowsError rfl) pa_nil))) (pa_cons (pe_callB (call_isExD hz hf) (by rfl) T.n_isinstance (by decide +kernel) (pa_cons (pv 7) (pa_cons (pe_bltn (v := .ty "ValueError") (by rfl) T.n_ValueError (by decide +kernel) rfl) pa_nil))) (pa_cons (pe_callB (call_isExD hz hf) (by rfl) T.n_isinstance (by decide +kernel) (pa_cons (pv 7) (pa_cons (pe_glob (v := .ref A.C_Unknown) rfl T.mg_Unknown rfl) pa_nil))) (pa_cons (pe_callB (call_isExD hz hf) (by rfl) T.n_isinstance (by decide +kernel) (pa_cons (pv 7) (pa_cons (pe_glob (v := .ref A.C_Impossible) rfl T.mg_Impossible rfl) pa_nil))) pa_nil))))))))))
      (pss_one (ps_ret (pe_and (pe_cmpR op_eq (pv 4) pe_str (nomark _)) (pe_and (pe_cmpR (op_eqD hr.units) (pv 6) (pe_lst (pa_cons pe_bl (pa_cons pe_bl (pa_cons pe_bl (pa_cons pe_bl pa_nil))))) (nomark _)) (pe_one (pe_call G_law_is_count (hr.mono (by decide)) rfl T.mg_law_is_count T.F_law_is_count.kp T.b_law_is_count .nil pass0 (pa_cons (pv 5) (pa_cons (pv 3) pa_nil)))))))))))), ?_⟩
    refine ⟨by show 0 ≤ sizeLine; decide, fun l hl' => ?_⟩
    have s1 := same_new (o := .lst []) hl'
    generalize upd H l _ = H2 at s1 ⊢
    refine ⟨_, rfl, _, rfl, _, rfl, _, rfl, way, p, o, i, cs, rs, ns, rfl, hT.same s1, s1.seq hO, hl, .inr ⟨hf, hw, hout, hi, fun d H6 s6 hd => ?_⟩⟩
    refine ⟨true, exm_self T.bp_UnknownRow T.ic_UnknownRow T.tp_UnknownRow T.ss_UnknownRow, fun _ e he => ?_, fun q => nomatch q⟩
    have hne : A.C_UnknownRow ≠ A.C_Impossible := fun e => by
      have z := T.su_UnknownRow_Impossible
      rw [← e, T.ss_UnknownRow] at z; cases z
    have k1 : PySem.W.kitOne K (.ref A.C_UnknownRow) (.ref A.C_RowsError) = some true := kit_own T.ic_RowsError T.tp_RowsError T.su_UnknownRow_RowsError (.inr rfl)
    have k2 : PySem.W.kitOne K (.ref A.C_UnknownRow) (.type "ValueError") = some true := kit_ownT (by decide +kernel) T.sv_UnknownRow
    have k3 : PySem.W.kitOne K (.ref A.C_UnknownRow) (.ref A.C_Unknown) = some true := kit_own T.ic_Unknown T.tp_Unknown T.su_UnknownRow_Unknown (.inr rfl)
    have k4 : PySem.W.kitOne K (.ref A.C_UnknownRow) (.ref A.C_Impossible) = some false := kit_own T.ic_Impossible T.tp_Impossible T.su_UnknownRow_Impossible (.inl hne)
    have s16 := s1.trans s6
    refine ⟨_, rfl, rfl, rfl, d, _, _, rfl, hd, rfl, ?_⟩
    refine ⟨_, rfl, _, _, _, rfl, rfl, hd, T.ec_UnknownRow, _, _, true, rfl, fun _ h => h, k1, ?_⟩
    refine ⟨_, rfl, _, _, _, rfl, rfl, hd, T.ec_UnknownRow, _, _, true, rfl, fun _ h => h, k2, ?_⟩
    refine ⟨_, rfl, _, _, _, rfl, rfl, hd, T.ec_UnknownRow, _, _, true, rfl, fun _ h => h, k3, ?_⟩
    refine ⟨_, rfl, _, _, _, rfl, rfl, hd, T.ec_UnknownRow, _, _, false, rfl, fun _ h => h, k4, ?_⟩
    refine ⟨by show 4 ≤ sizeLine; decide, fun l1 hl1 => ?_⟩
    have sl1 := same_new (o := .lst [V.bl true, .bl true, .bl true, .bl false]) hl1
    refine ⟨_, rfl, rfl, true, congrArg V.bl (decide_eq_true rfl), iteT ?_⟩
    refine ⟨_, rfl, by show 4 ≤ sizeLine; decide, fun l2 hl2 => ?_⟩
    have h12 := same_new (o := .lst [V.bl true, .bl true, .bl true, .bl false]) hl2 _ _ (upd_same (H := H6) (a := l1) (o := .lst [V.bl true, .bl true, .bl true, .bl false]))
    refine ⟨.list ([true, true, true, false].map PyData.bool), .list ([true, true, true, false].map PyData.bool), .lst (xs := [true, true, true, false].map V.bl) (SqL.of h12) (dpAll_bl _), .lst (xs := [true, true, true, false].map V.bl) (SqL.of upd_same) (dpAll_bl _), by decide +kernel, by decide +kernel, true, congrArg V.bl (by decide +kernel), iteT ?_⟩
    refine ⟨_, rfl, _, rfl, _, _, rfl, ?_⟩
    rw [decide_eq_true rfl]
    exact k _ (s16.trans (sl1.trans (same_new hl2)))
end
end My
set_option maxRecDepth 100000
set_option maxHeartbeats 4000000
set_option exponentiation.threshold 10000
namespace My
open PySem L2 PySem.W
open C8 (pss_cut)
/-! ### runs, by neighbours -/
def cntB (p : Nat → Bool) (n : Nat) : Nat := ((List.range n).filter p).length
theorem cntB_succ (p : Nat → Bool) (n : Nat) : cntB p (n + 1) = cntB p n + if p n = true then 1 else 0 := by
  unfold cntB
  rw [List.range_succ, List.filter_append, List.length_append]
  congr 1
  by_cases h : p n = true
  · rw [if_pos h, List.filter_cons_of_pos h]; rfl
  · rw [if_neg h, List.filter_cons_of_neg h]; rfl
def adjAt (fl : List Bool) (i : Nat) : Bool := fl.getD i false && fl.getD (i + 1) false
theorem runs_adj (fl : List Bool) : ∀ m, cntB (runAt fl) (m + 1) + cntB (adjAt fl) m = cntB (fun i => fl.getD i false) (m + 1)
  | 0 => by
    rw [cntB_succ, cntB_succ]
    have e : runAt fl 0 = fl.getD 0 false := by unfold runAt; cases fl.getD 0 false <;> rfl
    rw [e]; rfl
  | m + 1 => by
    have ih := runs_adj fl m
    rw [cntB_succ (runAt fl) (m + 1), cntB_succ (adjAt fl) m, cntB_succ (fun i => fl.getD i false) (m + 1)]
    have e : (if runAt fl (m + 1) = true then 1 else 0) + (if adjAt fl m = true then 1 else 0) = if fl.getD (m + 1) false = true then 1 else 0 := by
      unfold runAt adjAt
      rw [decide_eq_true (Nat.succ_pos m), Nat.add_sub_cancel]
      cases fl.getD (m + 1) false <;> cases fl.getD m false <;> rfl
    omega
theorem runs_eq (fl : List Bool) : runs fl + cntB (adjAt fl) (fl.length - 1) = (exts fl).length := by
  show cntB (runAt fl) fl.length + _ = cntB (fun i => fl.getD i false) fl.length
  cases h : fl.length with
  | zero => rfl
  | succ m => exact runs_adj fl m
theorem perm_of_fault {cs ns : List Str} (nc : cs.Nodup) (h : fault cs ns = none) : (∀ x ∈ ns, x ∈ cs) ∧ ns.Nodup ∧ ns.Perm cs := by
  unfold fault at h
  cases hs : stray cs ns with
  | some i => rw [hs] at h; cases h
  | none =>
    rw [hs] at h
    have h : (if ns.length < cs.length then some ns.length else none) = none := h
    have hl : cs.length ≤ ns.length := by
      by_cases z : ns.length < cs.length
      · rw [if_pos z] at h; cases h
      · omega
    obtain ⟨hsub, nd⟩ := stray_none_iff.mp hs
    refine ⟨hsub, nd, ?_⟩
    have hin : ∀ x ∈ cs, x ∈ ns := fun x hx => Classical.byContradiction fun hn => by
      have := nodup_le (l := x :: ns) (m := cs) (List.nodup_cons.mpr ⟨hn, nd⟩) fun y hy => by
        rcases List.mem_cons.mp hy with rfl | hy
        · exact hx
        · exact hsub y hy
      rw [List.length_cons] at this
      omega
    exact (List.perm_ext_iff_of_nodup nd nc).mpr fun x => ⟨hsub x, hin x⟩
theorem canon_mem {cs r : List Str} {x : Str} : x ∈ canon cs r ↔ x ∈ cs ∧ x ∈ r := by
  unfold canon; rw [List.mem_filter, decide_eq_true_iff]
theorem flags_canon {cs ns r : List Str} (h : ∀ x ∈ ns, x ∈ cs) : flags ns (canon cs r) = flags ns r := by
  unfold flags
  exact List.map_congr_left fun x hx => decide_eq_decide.mpr ⟨fun z => (canon_mem.mp z).2, fun z => canon_mem.mpr ⟨h x hx, z⟩⟩
theorem flag_at {ns r : List Str} {i : Nat} (hi : i < ns.length) : (flags ns r).getD i false = decide (ns.getD i Str.empty ∈ r) := by
  rw [List.getD_eq_getElem?_getD, List.getD_eq_getElem?_getD]
  unfold flags
  rw [List.getElem?_map, List.getElem?_eq_getElem hi]; rfl
theorem exts_len_eq {ns r : List Str} (nd : ns.Nodup) (ndr : r.Nodup) (h : ∀ x ∈ r, x ∈ ns) : (exts (flags ns r)).length = r.length := by
  have e : (exts (flags ns r)).length = (ns.filter fun x => decide (x ∈ r)).length := by
    have : ∀ m, m ≤ ns.length → ((List.range m).filter fun i => (flags ns r).getD i false).length = ((ns.take m).filter fun x => decide (x ∈ r)).length := by
      intro m hm
      induction m with
      | zero => rfl
      | succ m ih =>
        have hz : ns[m]? = some ns[m] := List.getElem?_eq_getElem (by omega)
        rw [List.range_succ, List.filter_append, List.length_append, ih (by omega), take_succ hz, List.filter_append, List.length_append]
        congr 1
        have hf := flag_at (ns := ns) (r := r) (i := m) (by omega)
        have hg : ns.getD m Str.empty = ns[m] := by rw [List.getD_eq_getElem?_getD, hz]; rfl
        rw [hg] at hf
        by_cases hr : ns[m] ∈ r
        · rw [decide_eq_true hr] at hf
          rw [List.filter_cons_of_pos (p := fun i => (flags ns r).getD i false) hf, List.filter_cons_of_pos (p := fun x => decide (x ∈ r)) (decide_eq_true hr)]; rfl
        · rw [decide_eq_false hr] at hf
          rw [List.filter_cons_of_neg (p := fun i => (flags ns r).getD i false) (by rw [hf]; decide), List.filter_cons_of_neg (p := fun x => decide (x ∈ r)) (by rw [decide_eq_false hr]; decide)]; rfl
    have := this ns.length (Nat.le_refl _)
    rw [List.take_length] at this
    have hl : (flags ns r).length = ns.length := List.length_map ..
    unfold exts
    rw [hl]; exact this
  rw [e]
  refine List.Perm.length_eq ((List.perm_ext_iff_of_nodup (List.Nodup.sublist List.filter_sublist nd) ndr).mpr fun x => ?_)
  rw [List.mem_filter, decide_eq_true_iff]
  exact ⟨fun z => z.2, fun z => ⟨h x z, z⟩⟩
/-- what the law counts -/
theorem runs_law {cs ns r : List Str} (nc : cs.Nodup) (hf : fault cs ns = none) (ndr : r.Nodup) (hr : ∀ x ∈ r, x ∈ cs) : (rn ns cs r : Int) = (r.length : Int) - (cntB (adjAt (flags ns r)) (ns.length - 1) : Nat) := by
  obtain ⟨h1, h2, h3⟩ := perm_of_fault nc hf
  have e := runs_eq (flags ns r)
  rw [exts_len_eq h2 ndr fun x hx => h3.mem_iff.mpr (hr x hx)] at e
  have hl : (flags ns r).length = ns.length := List.length_map ..
  rw [hl] at e
  show ((runs (flags ns (canon cs r)) : Nat) : Int) = _
  rw [flags_canon h1]
  omega
section
variable {P : Program} {w : World} {K : PySem.W.Frag} {mg : Str → Option Value} {base : Heap} {A : Ad}
def spLRuns (K : PySem.W.Frag) : Sp := fun vs H Q _ => ∃ (o r : Addr) (ns rr : List Str), vs = [.ref o, .ref r] ∧ SqL K H o (sv ns) ∧ SqL K H r (sv rr) ∧ ns.length ≤ 1000 ∧ ∀ H', Same H H' → Q (.int ((rr.length : Int) - (cntB (adjAt (flags ns rr)) (ns.length - 1) : Nat))) H'
theorem ok_lruns (T : Txt P K mg A) : FnOk P w K mg base CX0 1 A.a_law_runs A.d_law_runs ["order", "row"] (spLRuns K) := by
  refine T.F_law_runs.ok sc_law_runs (fun vs H Q E h => ?_) (fun cdv A' outer s H vs Q E hr h => ?_)
  · obtain ⟨o, r, ns, rr, rfl, _⟩ := h
    rfl
  · obtain ⟨o, r, ns, rr, rfl, hO, hR, hl, k⟩ := h
    refine ⟨_, (pss_cons (ps_setLc (i := 2) (own := [("k", 3)]) (g := gName 3) (tt := _) rfl sc_law_runs.nd rfl rfl (sw_true rfl rfl rfl (by decide +kernel)) (pi_range1 (by rfl) T.n_range (pa_cons (pe_op op_sub (pe_callB call_len_seq (by rfl) T.n_len (by decide +kernel) (pa_cons (pv 0) pa_nil)) pe_int) pa_nil)) (blkOk_by (N := ["order", "row", "near", "k"]) (sc := defScope s_law_runs) (by decide +kernel)) (fun _ _ _ _ _ => (pg_name (i := 3) sc_law_runs.nd rfl (Or.inl rfl))) (fun _ _ _ _ _ => (pts_one (PW.pt (pw_and (pt_cmpR (show OpR _ _ (rIn K false) from op_in_seq) (pe_ix (show IxR _ (rIxL K) from ix_list) (pv 0) (pv 3) (fun _ _ => rfl)) (pv 1) (by with_unfolding_all rfl)) (pw_and1 (pt_cmpR (show OpR _ _ (rIn K false) from op_in_seq) (pe_ix (show IxR _ (rIxL K) from ix_list) (pv 0) (pe_op op_add (pv 3) pe_int) (fun _ _ => rfl)) (pv 1) (by with_unfolding_all rfl))))))) (fun _ _ _ _ _ => (pv 3)))
      (pss_one (ps_ret (pe_op op_sub (pe_callB call_len_seq (by rfl) T.n_len (by decide +kernel) (pa_cons (pv 1) pa_nil)) (pe_callB call_len_seq (by rfl) T.n_len (by decide +kernel) (pa_cons (pv 2) pa_nil)))))), ?_⟩
    have ln := len_sv ns
    have e1 : ((((sv ns).length : Nat) : Int) - 1).toNat = ns.length - 1 := by omega
    refine ⟨_, rfl, o, _, rfl, .inl hO, _, _, rfl, rfl, _, rfl, by omega, by omega, fun D hD => lc_range (n := ((((sv ns).length : Nat) : Int) - 1).toNat) (PvS H D fun i => ((List.range i).filter (adjAt (flags ns rr))).map fun n => V.int (n : Nat)) (pv0 hD rfl) ?_ ?_⟩
    · rintro j H3 hj q
      rw [e1] at hj
      have hj0 : (0 : Int) + (j : Int) = (j : Int) := by omega
      have hj1 : (0 : Int) + (j : Int) + 1 = ((j + 1 : Nat) : Int) := by omega
      have at1 : atI (sv ns) (0 + (j : Int)) = some (V.str (ns.getD j Str.empty)) := by rw [hj0]; exact at_svn (by omega)
      have at2 : atI (sv ns) (0 + (j : Int) + 1) = some (V.str (ns.getD (j + 1) Str.empty)) := by rw [hj1]; exact at_svn (by omega)
      have hadj : adjAt (flags ns rr) j = (decide (ns.getD j Str.empty ∈ rr) && decide (ns.getD (j + 1) Str.empty ∈ rr)) := by
        unfold adjAt; rw [flag_at (by omega), flag_at (by omega)]
      have stepT : adjAt (flags ns rr) j = true → (((List.range (j + 1)).filter (adjAt (flags ns rr))).map fun n => V.int (n : Nat)) = (((List.range j).filter (adjAt (flags ns rr))).map fun n => V.int (n : Nat)) ++ [V.int (0 + (j : Int))] := fun h => by
        rw [List.range_succ, List.filter_append, List.map_append, List.filter_cons_of_pos h, hj0]; rfl
      have stepF : adjAt (flags ns rr) j = false → (((List.range (j + 1)).filter (adjAt (flags ns rr))).map fun n => V.int (n : Nat)) = (((List.range j).filter (adjAt (flags ns rr))).map fun n => V.int (n : Nat)) := fun h => by
        rw [List.range_succ, List.filter_append, List.map_append, List.filter_cons_of_neg (by rw [h]; decide)]; simp
      have lenF : (((List.range j).filter (adjAt (flags ns rr))).map fun n => V.int (n : Nat)).length ≤ 1000000 := by
        have := List.length_filter_le (adjAt (flags ns rr)) (List.range j)
        rw [List.length_range] at this
        rw [List.length_map]; omega
      refine ⟨rfl, _, rfl, _, rfl, o, _, _, _, rfl, rfl, q.1.seq hO, at1, _, rfl, r, _, rfl, .inl (q.1.seq hR), rfl, flat_sv _, _, rfl, ?_⟩
      rw [if_neg Bool.false_ne_true, inV_str]
      by_cases h1 : ns.getD j Str.empty ∈ rr
      · refine ifT (decide_eq_true h1) ⟨_, rfl, _, rfl, _, _, rfl, rfl, o, _, _, _, rfl, rfl, q.1.seq hO, at2, _, rfl, r, _, rfl, .inl (q.1.seq hR), rfl, flat_sv _, _, rfl, ?_⟩
        rw [if_neg Bool.false_ne_true, inV_str]
        by_cases h2 : ns.getD (j + 1) Str.empty ∈ rr
        · exact ifT (decide_eq_true h2) ⟨_, rfl, q.push hD (stepT (by rw [hadj, decide_eq_true h1, decide_eq_true h2]; rfl)) lenF⟩
        · exact ifF (decide_eq_false h2) (q.skip (stepF (by rw [hadj, decide_eq_false h2, Bool.and_false])))
      · exact ifF (decide_eq_false h1) (iteF (q.skip (stepF (by rw [hadj, decide_eq_false h1]; rfl))))
    · rintro H3 ⟨sm, h3⟩
      rw [e1] at h3
      have h3 : H3 D = some (.lst (((List.range (ns.length - 1)).filter (adjAt (flags ns rr))).map fun n => V.int (n : Nat))) := h3
      refine ⟨_, rfl, r, _, rfl, .inl (sm.seq hR), _, rfl, D, _, rfl, .inl (SqL.of h3), _, _, rfl, rfl, ?_⟩
      dsimp only
      rw [List.length_map, List.length_map]
      exact k H3 sm
def spNumsAre (K : PySem.W.Frag) : Sp := fun vs H Q _ => ∃ (f d : Addr) (b : List Int), vs = [.ref f, .ref d] ∧ SqL K H f (iv b) ∧ SqL K H d (iv b) ∧ ∀ H', Same H H' → Q (.bl true) H'
theorem ok_numsAre (T : Txt P K mg A) : FnOk P w K mg base CX0 1 A.a_law_numbers_are A.d_law_numbers_are ["found", "due"] (spNumsAre K) := by
  refine T.F_law_numbers_are.ok sc_law_numbers_are (fun vs H Q E h => ?_) (fun cdv A' outer s H vs Q E hr h => ?_)
  · obtain ⟨f, d, b, rfl, _⟩ := h
    rfl
  · obtain ⟨f, d, b, rfl, hF, hD, k⟩ := h
    refine ⟨_, (pss_cons (ps_for PassesOwn.never rfl (pi_list (pv 0)) (pg_name (i := 2) sc_law_numbers_are.nd rfl (Or.inl rfl))
        (pss_one (ps_if (PW.pt (pw_or (pt_not (pt_val (pe_callB call_isi (by rfl) T.n_isinstance (by decide +kernel) (pa_cons (pv 2) (pa_cons (pe_bltn (v := .ty "int") (by rfl) T.n_int (by decide +kernel) rfl) pa_nil))))) (pw_or1 (pt_val (pe_callB call_isi (by rfl) T.n_isinstance (by decide +kernel) (pa_cons (pv 2) (pa_cons (pe_bltn (v := .ty "bool") (by rfl) T.n_bool (by decide +kernel) rfl) pa_nil))))))) (pss_one (ps_ret pe_bl)) pss_nil)))
      (pss_one (ps_ret (pe_cmpR (op_eqD hr.units) (pe_callTy call_list_of (by rfl) T.n_list (by decide +kernel) (pa_cons (pv 0) pa_nil)) (pv 1) (nomark _))))), ?_⟩
    refine ⟨_, rfl, f, rfl, ⟨_, hF⟩, for_it walk_list (fun i σ H2 => H2 = H ∧ ∃ u : Option V, σ = [some (.ref f), some (.ref d), u]) ⟨rfl, none, rfl⟩ (fun i σ H2 _ p => by rw [p.1]; exact hF) ?_ ?_⟩
    · rintro i x σ H20 H2 hi ⟨rfl, u, rfl⟩ ⟨rfl, hx⟩
      obtain ⟨z, hz, rfl⟩ : ∃ z, b[i]? = some z ∧ x = V.int z := by
        have hx : (b.map V.int)[i]? = some x := hx
        rw [List.getElem?_map] at hx
        cases e : b[i]? with
        | none => rw [e] at hx; cases hx
        | some t => rw [e] at hx; exact ⟨t, rfl, (Option.some.inj hx).symm⟩
      refine ⟨_, rfl, _, _, _, _, true, rfl, .ty _, .base (.int _), kit_ty (by decide +kernel), true, rfl, iteF ?_⟩
      exact ⟨_, rfl, _, _, _, _, false, rfl, .ty _, .base (.int _), kit_ty (by decide +kernel), false, rfl, iteF ⟨rfl, _, rfl⟩⟩
    · rintro σ H2 ⟨rfl, u, rfl⟩
      have hlay : ∀ b : List Int, PyData.canLayAll0 (b.map .int) = true := fun b => by
        induction b with
        | nil => rfl
        | cons a t ih => show (PyData.canLay0 (.int a) && PyData.canLayAll0 (t.map .int)) = true; rw [ih]; rfl
      have hsh : SeqAt.shaped (.list (b.map PyData.int)) = true := by
        show (PyData.canLay0 (.list (b.map PyData.int)) && decide (PyData.depth (.list (b.map PyData.int)) ≤ 64)) = true
        rw [Bool.and_eq_true]
        exact ⟨by simp only [PyData.canLay0]; exact hlay b, decide_eq_true (by simp only [PyData.depth]; have := PySem.W.depth_ints b; omega)⟩
      have hev : PyData.eqv (.list (b.map PyData.int)) (.list (b.map PyData.int)) = true := SeqAt.eqv_refl _ (by simp only [PyData.canLay0]; exact hlay b)
      refine ⟨_, rfl, f, _, rfl, .inl hF, fun l hl => ?_⟩
      refine ⟨_, rfl, .list (b.map .int), .list (b.map .int), .lst (xs := iv b) (SqL.of upd_same) (dp_ints b), .lst (xs := iv b) ((same_new hl).seq hD) (dp_ints b), hsh, hsh, ?_⟩
      rw [hev]
      exact k _ (same_new hl)
def spNumsAreT (K : PySem.W.Frag) : Sp := fun vs H Q _ => ∃ (f d : Addr) (b : List Int), vs = [.ref f, .ref d] ∧ SqT K H f (iv b) ∧ SqL K H d (iv b) ∧ ∀ H', Same H H' → Q (.bl true) H'
theorem ok_numsAreT (T : Txt P K mg A) : FnOk P w K mg base CX0 1 A.a_law_numbers_are A.d_law_numbers_are ["found", "due"] (spNumsAreT K) := by
  refine T.F_law_numbers_are.ok sc_law_numbers_are (fun vs H Q E h => ?_) (fun cdv A' outer s H vs Q E hr h => ?_)
  · obtain ⟨f, d, b, rfl, _⟩ := h
    rfl
  · obtain ⟨f, d, b, rfl, hF, hD, k⟩ := h
    refine ⟨_, (pss_cons (ps_for PassesOwn.never rfl (pi_tup (pv 0)) (pg_name (i := 2) sc_law_numbers_are.nd rfl (Or.inl rfl))
        (pss_one (ps_if (PW.pt (pw_or (pt_not (pt_val (pe_callB call_isi (by rfl) T.n_isinstance (by decide +kernel) (pa_cons (pv 2) (pa_cons (pe_bltn (v := .ty "int") (by rfl) T.n_int (by decide +kernel) rfl) pa_nil))))) (pw_or1 (pt_val (pe_callB call_isi (by rfl) T.n_isinstance (by decide +kernel) (pa_cons (pv 2) (pa_cons (pe_bltn (v := .ty "bool") (by rfl) T.n_bool (by decide +kernel) rfl) pa_nil))))))) (pss_one (ps_ret pe_bl)) pss_nil)))
      (pss_one (ps_ret (pe_cmpR (op_eqD hr.units) (pe_callTy call_list_of (by rfl) T.n_list (by decide +kernel) (pa_cons (pv 0) pa_nil)) (pv 1) (nomark _))))), ?_⟩
    refine ⟨_, rfl, f, rfl, ⟨_, hF⟩, for_it walk_tup (fun i σ H2 => H2 = H ∧ ∃ u : Option V, σ = [some (.ref f), some (.ref d), u]) ⟨rfl, none, rfl⟩ (fun i σ H2 _ p => by rw [p.1]; exact hF) ?_ ?_⟩
    · rintro i x σ H20 H2 hi ⟨rfl, u, rfl⟩ ⟨rfl, hx⟩
      obtain ⟨z, hz, rfl⟩ : ∃ z, b[i]? = some z ∧ x = V.int z := by
        have hx : (b.map V.int)[i]? = some x := hx
        rw [List.getElem?_map] at hx
        cases e : b[i]? with
        | none => rw [e] at hx; cases hx
        | some t => rw [e] at hx; exact ⟨t, rfl, (Option.some.inj hx).symm⟩
      refine ⟨_, rfl, _, _, _, _, true, rfl, .ty _, .base (.int _), kit_ty (by decide +kernel), true, rfl, iteF ?_⟩
      exact ⟨_, rfl, _, _, _, _, false, rfl, .ty _, .base (.int _), kit_ty (by decide +kernel), false, rfl, iteF ⟨rfl, _, rfl⟩⟩
    · rintro σ H2 ⟨rfl, u, rfl⟩
      have hlay : ∀ b : List Int, PyData.canLayAll0 (b.map .int) = true := fun b => by
        induction b with
        | nil => rfl
        | cons a t ih => show (PyData.canLay0 (.int a) && PyData.canLayAll0 (t.map .int)) = true; rw [ih]; rfl
      have hsh : SeqAt.shaped (.list (b.map PyData.int)) = true := by
        show (PyData.canLay0 (.list (b.map PyData.int)) && decide (PyData.depth (.list (b.map PyData.int)) ≤ 64)) = true
        rw [Bool.and_eq_true]
        exact ⟨by simp only [PyData.canLay0]; exact hlay b, decide_eq_true (by simp only [PyData.depth]; have := PySem.W.depth_ints b; omega)⟩
      have hev : PyData.eqv (.list (b.map PyData.int)) (.list (b.map PyData.int)) = true := SeqAt.eqv_refl _ (by simp only [PyData.canLay0]; exact hlay b)
      refine ⟨_, rfl, f, _, rfl, .inr hF, fun l hl => ?_⟩
      refine ⟨_, rfl, .list (b.map .int), .list (b.map .int), .lst (xs := iv b) (SqL.of upd_same) (dp_ints b), .lst (xs := iv b) ((same_new hl).seq hD) (dp_ints b), hsh, hsh, ?_⟩
      rw [hev]
      exact k _ (same_new hl)
end
end My
set_option maxRecDepth 100000
set_option maxHeartbeats 4000000
set_option exponentiation.threshold 10000
namespace My
open PySem L2 PySem.W
open C8 (pss_cut)
theorem layI (b : List Int) : PyData.canLayAll0 (b.map .int) = true := by
  induction b with
  | nil => rfl
  | cons a t ih => show (PyData.canLay0 (.int a) && PyData.canLayAll0 (t.map .int)) = true; rw [ih]; rfl
theorem shapedTI (b : List Int) : SeqAt.shaped (.tuple (b.map PyData.int)) = true := by
  show (PyData.canLay0 (.tuple (b.map PyData.int)) && decide (PyData.depth (.tuple (b.map PyData.int)) ≤ 64)) = true
  rw [Bool.and_eq_true]
  exact ⟨by simp only [PyData.canLay0]; exact layI b, decide_eq_true (by simp only [PyData.depth]; have := PySem.W.depth_ints b; omega)⟩
theorem eqvTI (b : List Int) : PyData.eqv (.tuple (b.map PyData.int)) (.tuple (b.map PyData.int)) = true := SeqAt.eqv_refl _ (by simp only [PyData.canLay0]; exact layI b)
theorem eqvN : PyData.eqv .none .none = true := by simp [PyData.eqv]
theorem shapedN : SeqAt.shaped .none = true := by decide
/-! ### where a name stands -/
def ixOf (ns : List Str) (z : Str) : Nat := ns.findIdx fun y => decide (y = z)
theorem ixOf_lt {ns : List Str} {z : Str} (h : z ∈ ns) : ixOf ns z < ns.length := List.findIdx_lt_length_of_exists ⟨z, h, decide_eq_true rfl⟩
theorem ixOf_at {ns : List Str} {z : Str} (h : z ∈ ns) : ns[ixOf ns z]? = some z := by
  have hl := ixOf_lt h
  have := List.findIdx_getElem (p := fun y => decide (y = z)) (xs := ns) (w := hl)
  rw [List.getElem?_eq_getElem hl]
  exact congrArg some (of_decide_eq_true this)
theorem ixOf_no {ns : List Str} {z y : Str} {m : Nat} (h : m < ixOf ns z) (hy : ns[m]? = some y) : y ≠ z := by
  have := List.not_of_lt_findIdx (p := fun y => decide (y = z)) (xs := ns) h
  obtain ⟨hm, e⟩ := List.getElem?_eq_some_iff.mp hy
  rw [e] at this
  simpa using this
theorem ixOf_of {ns : List Str} {i : Nat} {z : Str} (nd : ns.Nodup) (h : ns[i]? = some z) : ixOf ns z = i := by
  have hz := List.mem_of_getElem? h
  obtain ⟨hi, e⟩ := List.getElem?_eq_some_iff.mp h
  obtain ⟨hj, e'⟩ := List.getElem?_eq_some_iff.mp (ixOf_at hz)
  rw [List.nodup_iff_pairwise_ne, List.pairwise_iff_getElem] at nd
  rcases Nat.lt_trichotomy (ixOf ns z) i with c | c | c
  · exact absurd (e'.trans e.symm) (nd _ _ hj hi c)
  · exact c
  · exact absurd (e.trans e'.symm) (nd _ _ hi hj c)
theorem exts_mem {ns r : List Str} {i : Nat} : i ∈ exts (flags ns r) ↔ ∃ z, ns[i]? = some z ∧ z ∈ r := by
  unfold exts
  have hl : (flags ns r).length = ns.length := List.length_map ..
  rw [List.mem_filter, List.mem_range, hl]
  constructor
  · rintro ⟨h1, h2⟩
    rw [flag_at h1, decide_eq_true_iff] at h2
    refine ⟨ns[i], List.getElem?_eq_getElem h1, ?_⟩
    rw [List.getD_eq_getElem?_getD, List.getElem?_eq_getElem h1] at h2
    exact h2
  · rintro ⟨z, hz, hr⟩
    obtain ⟨hi, e⟩ := List.getElem?_eq_some_iff.mp hz
    refine ⟨hi, ?_⟩
    rw [flag_at hi, decide_eq_true_iff, List.getD_eq_getElem?_getD, hz]
    exact hr
theorem exts_sorted (fl : List Bool) : (exts fl).Pairwise (· < ·) := List.Pairwise.filter _ List.pairwise_lt_range
theorem head_le {l : List Nat} {i : Nat} {t : List Nat} (e : l = i :: t) (h : l.Pairwise (· < ·)) : ∀ x ∈ l, i ≤ x := by
  subst e
  intro x hx
  rcases List.mem_cons.mp hx with rfl | hx
  · exact Nat.le_refl _
  · exact Nat.le_of_lt ((List.pairwise_cons.mp h).1 x hx)
theorem last_ge {l : List Nat} {j : Nat} (e : l.getLast? = some j) (h : l.Pairwise (· < ·)) : ∀ x ∈ l, x ≤ j := by
  obtain ⟨ys, rfl⟩ := List.getLast?_eq_some_iff.mp e
  intro x hx
  rcases List.mem_append.mp hx with hx | hx
  · exact Nat.le_of_lt ((List.pairwise_append.mp h).2.2 x hx j (List.mem_singleton.mpr rfl))
  · rw [List.mem_singleton.mp hx]; exact Nat.le_refl _
theorem fn_imp {P : Program} {w : World} {K : PySem.W.Frag} {mg : Str → Option Value} {base : Heap} {CX : CXT} {k : Nat} {f : Addr} {fd : FuncData} {ps : List Str} {s1 s2 : Sp} (h : FnOk P w K mg base CX k f fd ps s1) (i : ∀ vs H Q E, s2 vs H Q E → s1 vs H Q E) : FnOk P w K mg base CX k f fd ps s2 :=
  ⟨fun vs H Q E z => h.len vs H Q E (i _ _ _ _ z), fun A S s H args us vs Q E hr e0 b r z => h.run A S s H args us vs Q E hr e0 b r (i _ _ _ _ z)⟩
abbrev sqA (K : PySem.W.Frag) : Hp → Addr → List V → Prop := fun H a xs => SqL K H a xs ∨ SqT K H a xs
theorem sqA.same {K : PySem.W.Frag} {H H' : Hp} {a : Addr} {xs : List V} (h : sqA K H a xs) (s : Same H H') : sqA K H' a xs := h.elim (fun z => .inl (s.seq z)) fun z => .inr (s.tup z)
section
variable {P : Program} {w : World} {K : PySem.W.Frag} {mg : Str → Option Value} {base : Heap} {A : Ad}
theorem ok_runCO (T : Txt P K mg A) : FnOk P w K mg base CX0 4 A.a_run_count A.d_run_count ["table", "order", "number"] (spRunC A.C_Table (sqA K)) :=
  fn_imp (fn_or (ok_runC (P := P) (w := w) (base := base) T) (ok_runCT (P := P) (w := w) (base := base) T)) fun vs H Q E h => by
    obtain ⟨p, l, n, cs, rs, ns, e, hT, hO, hl, hf, hn, k⟩ := h
    rcases hO with hO | hO
    · exact .inl ⟨p, l, n, cs, rs, ns, e, hT, hO, hl, hf, hn, k⟩
    · exact .inr ⟨p, l, n, cs, rs, ns, e, hT, hO, hl, hf, hn, k⟩
theorem ok_extO (T : Txt P K mg A) : FnOk P w K mg base CX0 4 A.a_extent A.d_extent ["table", "order", "number"] (spExt A.C_Table (sqA K)) :=
  fn_imp (fn_or (ok_ext (P := P) (w := w) (base := base) T) (ok_extT (P := P) (w := w) (base := base) T)) fun vs H Q E h => by
    obtain ⟨p, l, n, cs, rs, ns, e, hT, hO, hl, hf, hn, k⟩ := h
    rcases hO with hO | hO
    · exact .inl ⟨p, l, n, cs, rs, ns, e, hT, hO, hl, hf, hn, k⟩
    · exact .inr ⟨p, l, n, cs, rs, ns, e, hT, hO, hl, hf, hn, k⟩
def spRowIs (C : Addr) (K : PySem.W.Frag) : Sp := fun vs H Q _ => ∃ (p o r : Addr) (n : Nat) (cs : List Str) (rs : List (List Str)) (ns rr : List Str), vs = [.ref p, .ref o, .ref r, .int (n : Nat)] ∧ Tb C H p cs rs ∧ SqL K H o (sv ns) ∧ SqL K H r (sv rr) ∧ ns.length ≤ 1000 ∧ cs.Nodup ∧ fault cs ns = none ∧ rs[n]? = some rr ∧ rr.Nodup ∧ (∀ x ∈ rr, x ∈ cs) ∧ (∀ z ∈ ns, Okz z) ∧ rr.length ≤ 1000 ∧ ∀ H', Same H H' → Q (.bl true) H'
theorem ok_rowIs (T : Txt P K mg A) : FnOk P w K mg base CX0 5 A.a_law_row_is A.d_law_row_is ["table", "order", "row", "number"] (spRowIs A.C_Table K) := by
  have G_run_countO := ok_runCO (P := P) (w := w) (base := base) T
  have G_extentO := ok_extO (P := P) (w := w) (base := base) T
  have G_law_is_count := ok_isCount (P := P) (w := w) (base := base) T
  have G_law_runs := ok_lruns (P := P) (w := w) (base := base) T
  refine T.F_law_row_is.ok sc_law_row_is (fun vs H Q E h => ?_) (fun cdv A' outer s H vs Q E hr h => ?_)
  · obtain ⟨p, o, r, n, cs, rs, ns, rr, rfl, _⟩ := h
    rfl
  · obtain ⟨p, o, r, n, cs, rs, ns, rr, rfl, hT, hO, hR, hl, nc, hf, hrn, ndr, hsub, hz, hrl, k⟩ := h
    refine ⟨_, (pss_cons (ps_set (i := 4) sc_law_row_is.nd rfl (Or.inl rfl) pe_non)
      (pss_cut (ps_if (pt_cmpR op_gt (pe_callB call_len_seq (by rfl) T.n_len (by decide +kernel) (pa_cons (pv 2) pa_nil)) pe_int (nomark _)) (pss_cons (ps_setLc (i := 5) (own := [("name", 8)]) (g := gName 8) (tt := tYes) rfl sc_law_row_is.nd rfl rfl (sw_true rfl rfl rfl (by decide +kernel)) (pi_list (pv 2)) (blkOk_by (N := ["table", "order", "row", "number", "due", "places", "given", "found", "name"]) (sc := defScope s_law_row_is) (by decide +kernel)) (fun _ _ _ _ _ => (pg_name (i := 8) sc_law_row_is.nd rfl (Or.inl rfl))) (fun _ _ _ _ _ => pts_nil) (fun _ _ _ _ _ => (show PE _ _ (tBM K "list" (rIndex K) _ _) from (pe_bm PySem.F.plainAttrs_list PySem.F.slot_list_index PySem.F.type_list_index mt_index (pv 1) (pa_cons (pv 8) pa_nil)))))
      (pss_one (ps_set (i := 4) sc_law_row_is.nd rfl (Or.inl rfl) (pe_tup (pa_cons (pe_callB (cr_min rfl) (by rfl) T.n_min (by decide +kernel) (pa_cons (pv 5) pa_nil)) (pa_cons (pe_callB (cr_max rfl) (by rfl) T.n_max (by decide +kernel) (pa_cons (pv 5) pa_nil)) pa_nil)))))) pss_nil)
      (pss_cons (ps_for PassesOwn.never rfl (pi_list (pe_lst (pa_cons (pe_callTy call_list_of (by rfl) T.n_list (by decide +kernel) (pa_cons (pv 1) pa_nil)) (pa_cons (pe_callTy call_tuple_of (by rfl) T.n_tuple (by decide +kernel) (pa_cons (pv 1) pa_nil)) pa_nil)))) (pg_name (i := 6) sc_law_row_is.nd rfl (Or.inl rfl))
        (pss_cons (ps_if (pt_not (pt_val (pe_call G_law_is_count (hr.mono (by decide)) rfl T.mg_law_is_count T.F_law_is_count.kp T.b_law_is_count .nil pass0 (pa_cons (pe_call G_run_countO (hr.mono (by decide)) rfl T.mg_run_count T.F_run_count.kp T.b_run_count .nil pass0 (pa_cons (pv 0) (pa_cons (pv 6) (pa_cons (pv 3) pa_nil)))) (pa_cons (pe_call G_law_runs (hr.mono (by decide)) rfl T.mg_law_runs T.F_law_runs.kp T.b_law_runs .nil pass0 (pa_cons (pv 1) (pa_cons (pv 2) pa_nil))) pa_nil))))) (pss_one (ps_ret pe_bl)) pss_nil)
      (pss_cons (ps_set (i := 7) sc_law_row_is.nd rfl (Or.inl rfl) (pe_call G_extentO (hr.mono (by decide)) rfl T.mg_extent T.F_extent.kp T.b_extent .nil pass0 (pa_cons (pv 0) (pa_cons (pv 6) (pa_cons (pv 3) pa_nil)))))
      (pss_cons (ps_if (PW.pt (pw_or (pt_cmpR (op_neD hr.units) (pv 7) (pv 4) (nomark _)) (pw_or1 (pt_cmpR (op_neD hr.units) (pe_callTy call_list_of (by rfl) T.n_list (by decide +kernel) (pa_cons (pv 6) pa_nil)) (pv 1) (nomark _))))) (pss_one (ps_ret pe_bl)) pss_nil)
      (pss_cons (ps_if (PW.pt (pw_and (pt_cmpR op_notN (pv 4) pe_non (nomark _)) (pw_and1 (PW.pt (pw_or (pt_not (pt_val (pe_callB call_isi (by rfl) T.n_isinstance (by decide +kernel) (pa_cons (pv 7) (pa_cons (pe_bltn (v := .ty "tuple") (by rfl) T.n_tuple (by decide +kernel) rfl) pa_nil))))) (pw_or1 (pt_not (pt_val (pe_call G_law_is_count (hr.mono (by decide)) rfl T.mg_law_is_count T.F_law_is_count.kp T.b_law_is_count .nil pass0 (pa_cons (pe_ix ix_tup (pv 7) pe_int (fun _ _ => rfl)) (pa_cons (pe_ix ix_tup (pv 4) pe_int (fun _ _ => rfl)) pa_nil))))))))))) (pss_one (ps_ret pe_bl)) pss_nil)
      (pss_one (ps_if (PW.pt (pw_and (pt_cmpR op_notN (pv 4) pe_non (nomark _)) (pw_and1 (pt_not (pt_val (pe_call G_law_is_count (hr.mono (by decide)) rfl T.mg_law_is_count T.F_law_is_count.kp T.b_law_is_count .nil pass0 (pa_cons (pe_ix ix_tup (pv 7) pe_int (fun _ _ => rfl)) (pa_cons (pe_ix ix_tup (pv 4) pe_int (fun _ _ => rfl)) pa_nil)))))))) (pss_one (ps_ret pe_bl)) pss_nil)))))))
      (pss_one (ps_ret pe_bl))))), ?_⟩
    obtain ⟨hns, ndn, hperm⟩ := perm_of_fault nc hf
    have hfc := flags_canon (r := rr) hns
    have hrns : ∀ x ∈ rr, x ∈ ns := fun x hx => hperm.mem_iff.mpr (hsub x hx)
    have hnlt : n < rs.length := (List.getElem?_eq_some_iff.mp hrn).1
    have hruns := runs_law nc hf ndr hsub
    refine ⟨fun σ H6 => Same H H6 ∧ ∃ (u5 : Option V) (due : V), σ = [some (.ref p), some (.ref o), some (.ref r), some (.int (n : Nat)), some due, u5, none, none, none] ∧
      ((exts (flags ns rr) = [] ∧ due = .non) ∨ (∃ i t j q, exts (flags ns rr) = i :: t ∧ (i :: t).getLast? = some j ∧ due = .ref q ∧ H6 q = some (.tup (iv [(i : Int), (j : Int)])))), ?_, ?_⟩
    · refine ⟨_, rfl, r, _, rfl, .inl hR, _, _, rfl, rfl, _, rfl, ite2 (fun hb => ?_) (fun hb => ?_)⟩
      · have hpos : 0 < rr.length := by have := of_decide_eq_true hb; rw [len_sv] at this; omega
        refine ⟨_, rfl, r, rfl, ⟨_, hR⟩, fun D hD => lc_it walk_list (PvS H D fun i => iv ((rr.take i).map fun z => ((ixOf ns z : Nat) : Int))) (pv0 hD rfl) (fun i H2 _ q => q.1.seq hR) ?_ ?_⟩
        · rintro i x H30 H3 hi q ⟨rfl, hx⟩
          obtain ⟨z, hzz, rfl⟩ := sv_get hx
          have hm := hrns z (List.mem_of_getElem? hzz)
          have hat := ixOf_at hm
          refine ⟨rfl, _, rfl, .inl ⟨rfl, _, q.1.seq hO⟩, _, rfl, o, sv ns, .str z, ixOf ns z, .str z, rfl, rfl, q.1.seq hO, rfl, flat_sv _, by rw [List.getElem?_map, hat]; rfl, by rw [eqV_str]; exact decide_eq_true rfl, fun m z' hm' hz' => ?_, q.push hD ?_ ?_⟩
          · obtain ⟨y, hy, rfl⟩ := sv_get hz'
            rw [eqV_str]
            exact decide_eq_false (ixOf_no hm' hy)
          · show iv ((rr.take (i + 1)).map _) = _
            rw [take_succ hzz, List.map_append]
            exact List.map_append
          · show (iv ((rr.take i).map _)).length ≤ 1000000
            rw [List.length_map, List.length_map, List.length_take]; omega
        rintro H3 ⟨s3, h3⟩
        have h3 : H3 D = some (.lst (((rr.take (sv rr).length).map fun z => ((ixOf ns z : Nat) : Int)).map V.int)) := h3
        rw [len_sv, List.take_length] at h3
        have hne : exts (flags ns rr) ≠ [] := fun e => by
          obtain ⟨z, hz0⟩ : ∃ z, rr[0]? = some z := ⟨rr[0], List.getElem?_eq_getElem hpos⟩
          have hzr := List.mem_of_getElem? hz0
          have : ixOf ns z ∈ exts (flags ns rr) := exts_mem.mpr ⟨z, ixOf_at (hrns z hzr), hzr⟩
          rw [e] at this; cases this
        obtain ⟨i, t, hit⟩ : ∃ i t, exts (flags ns rr) = i :: t := by
          cases e : exts (flags ns rr) with
          | nil => exact absurd e hne
          | cons i t => exact ⟨i, t, rfl⟩
        obtain ⟨j, hj⟩ : ∃ j, (i :: t).getLast? = some j := ⟨(i :: t).getLast (by simp), List.getLast?_eq_getLast _⟩
        have hso := exts_sorted (flags ns rr)
        have him : ∀ m ∈ exts (flags ns rr), ((m : Nat) : Int) ∈ rr.map fun z => ((ixOf ns z : Nat) : Int) := fun m hm => by
          obtain ⟨z, hz1, hz2⟩ := exts_mem.mp hm
          exact List.mem_map.mpr ⟨z, hz2, by rw [ixOf_of ndn hz1]⟩
        have hmi : ∀ m ∈ rr.map (fun z => ((ixOf ns z : Nat) : Int)), ∃ x ∈ exts (flags ns rr), m = ((x : Nat) : Int) := fun m hm => by
          obtain ⟨z, hz2, rfl⟩ := List.mem_map.mp hm
          exact ⟨ixOf ns z, exts_mem.mpr ⟨z, ixOf_at (hrns z hz2), hz2⟩, rfl⟩
        have hi_mem : i ∈ exts (flags ns rr) := by rw [hit]; exact List.mem_cons_self
        have hj_mem : j ∈ exts (flags ns rr) := by rw [hit]; exact List.mem_of_getLast? hj
        refine ⟨_, rfl, D, _, rfl, SqL.of h3, by rw [List.length_map]; exact hpos, fun m hm hall => ?_⟩
        have e1 : m = ((i : Nat) : Int) := by
          obtain ⟨x, hx, rfl⟩ := hmi m hm
          have a := hall _ (him i hi_mem)
          have b := head_le hit hso x hx
          omega
        subst e1
        refine ⟨_, rfl, D, _, rfl, SqL.of h3, by rw [List.length_map]; exact hpos, fun M hM hallM => ?_⟩
        have e2 : M = ((j : Nat) : Int) := by
          obtain ⟨x, hx, rfl⟩ := hmi M hM
          have a := hallM _ (him j hj_mem)
          have b := last_ge (by rw [hit]; exact hj) hso x hx
          omega
        subst e2
        refine ⟨by show 2 ≤ sizeLine; decide, fun q hq => ?_⟩
        exact ⟨s3.trans (same_new hq), _, _, rfl, .inr ⟨i, t, j, q, hit, hj, rfl, upd_same⟩⟩
      · refine ⟨Same.refl _, _, _, rfl, .inl ⟨?_, rfl⟩⟩
        have h0 : rr.length = 0 := Nat.eq_zero_of_not_pos fun z => hb (decide_eq_true (by rw [len_sv]; omega))
        have := exts_len_eq ndn ndr hrns
        rw [h0] at this
        exact List.eq_nil_of_length_eq_zero this
    rintro σ H6 ⟨s6, u5, due, rfl, hdue⟩
    refine ⟨_, rfl, o, _, rfl, .inl (s6.seq hO), fun g1 hg1 => ?_⟩
    have sg1 := s6.trans (same_new (o := .lst (sv ns)) hg1)
    refine ⟨_, rfl, o, _, rfl, .inl ⟨sg1.seq hO, fun g2 hg2 => ?_⟩⟩
    have s67 := (same_new (o := .lst (sv ns)) hg1).trans (same_new (o := .tup (sv ns)) hg2)
    have hG2 := upd_same (H := upd H6 g1 (.lst (sv ns))) (a := g2) (o := .tup (sv ns))
    have hG1 := same_new (o := .tup (sv ns)) hg2 _ _ (upd_same (H := H6) (a := g1) (o := .lst (sv ns)))
    generalize upd (upd H6 g1 _) g2 _ = H7 at s67 hG1 hG2 ⊢
    refine ⟨by show 2 ≤ sizeLine; decide, fun l hl' => ?_⟩
    have s7 := s6.trans (s67.trans (same_new (o := .lst [V.ref g1, V.ref g2]) hl'))
    have sl7 := s67.trans (same_new (o := .lst [V.ref g1, V.ref g2]) hl')
    have hG1 := same_new (o := .lst [V.ref g1, V.ref g2]) hl' _ _ hG1
    have hG2 := same_new (o := .lst [V.ref g1, V.ref g2]) hl' _ _ hG2
    have hl8 := upd_same (H := H7) (a := l) (o := .lst [V.ref g1, V.ref g2])
    generalize upd H7 l _ = H8 at s7 sl7 hG1 hG2 hl8 ⊢
    refine ⟨l, rfl, ⟨_, SqL.of hl8⟩, for_it walk_list (fun i σ H9 => Same H8 H9 ∧ ∃ (u6 u7 : Option V), σ = [some (.ref p), some (.ref o), some (.ref r), some (.int (n : Nat)), some due, u5, u6, u7, none]) ⟨Same.refl _, none, none, rfl⟩ (fun i σ H9 _ q => q.1.seq (SqL.of hl8)) ?_ ?_⟩
    · rintro i x σ H90 H9 hi ⟨s9, u6, u7, rfl⟩ ⟨rfl, hx⟩
      obtain ⟨g, rfl, hg⟩ : ∃ g, x = V.ref g ∧ sqA K H9 g (sv ns) := by
        match i, hx with
        | 0, hx => cases hx; exact ⟨g1, rfl, .inl (SqL.of (s9 _ _ hG1))⟩
        | 1, hx => cases hx; exact ⟨g2, rfl, .inr (SqT.of (s9 _ _ hG2))⟩
      have s89 := s7.trans s9
      refine ⟨_, rfl, _, rfl, _, rfl, p, g, n, cs, rs, ns, rfl, hT.same s89, hg, hl, hf, hnlt, fun H10 r' hr' s10 => ?_⟩
      have s10' := s89.trans s10
      have er : r' = rr := by rw [hrn] at hr'; exact (Option.some.inj hr').symm
      subst er
      refine ⟨_, rfl, _, rfl, o, r, ns, r', rfl, s10'.seq hO, s10'.seq hR, hl, fun H11 s11 => ⟨_, _, rfl, ⟨_, rfl, ?_⟩⟩⟩
      have s11' := s10'.trans s11
      refine ifF (by rw [decide_eq_true hruns]; rfl) ?_
      have hg11 := hg.same (s10.trans s11)
      have stD : Same H8 H11 := s9.trans (s10.trans s11)
      refine ⟨_, rfl, _, rfl, _, rfl, p, g, n, cs, rs, ns, rfl, hT.same s11', hg11, hl, hf, hnlt, fun r'' hr'' => ?_⟩
      have er : r'' = r' := by rw [hrn] at hr''; exact (Option.some.inj hr'').symm
      subst er
      rw [hfc]
      refine ⟨fun he H12 s12 => ?_, fun i t j he hj q H12 s12 hq => ?_⟩
      · have hd : due = .non := by
          rcases hdue with ⟨_, e⟩ | ⟨i, t, j, q, e, _⟩
          · exact e
          · rw [he] at e; cases e
        subst hd
        have s13 := s11'.trans s12
        have hg12 := hg11.same s12
        refine ⟨_, rfl, _, rfl, .none, .none, .non, .non, shapedN, shapedN, _, rfl, ifF (by rw [eqvN]; rfl) ?_⟩
        refine ⟨_, rfl, g, _, rfl, hg12, fun l2 hl2 => ?_⟩
        have s14 := s13.trans (same_new (o := .lst (sv ns)) hl2)
        refine ⟨_, rfl, .list (pd ns), .list (pd ns), .lst (xs := sv ns) (SqL.of upd_same) (dp_pd ns), .lst (xs := sv ns) (s14.seq hO) (dp_pd ns), shaped_pd hz, shaped_pd hz, _, rfl, ifF (by rw [eqv_pd hz]; rfl) ?_⟩
        refine ⟨_, rfl, rfl, _, rfl, itNe rfl (iteF ?_)⟩
        refine ⟨_, rfl, rfl, _, rfl, itNe rfl (iteF ?_)⟩
        exact ⟨stD.trans (s12.trans (same_new hl2)), _, _, rfl⟩
      · obtain ⟨q', hdue, hq6⟩ : ∃ q', due = .ref q' ∧ H6 q' = some (.tup (iv [(i : Int), (j : Int)])) := by
          rcases hdue with ⟨e, _⟩ | ⟨i', t', j', q', e, e2, e3, e4⟩
          · rw [he] at e; cases e
          · rw [he] at e; cases e; rw [hj] at e2; cases e2; exact ⟨q', e3, e4⟩
        subst hdue
        have s13 := s11'.trans s12
        have hg12 := hg11.same s12
        have sx : Same H6 H12 := sl7.trans (stD.trans s12)
        have hq12 := sx _ _ hq6
        have hq : H12 q = some (.tup (iv [(i : Int), (j : Int)])) := hq
        refine ⟨_, rfl, _, rfl, .tuple ([(i : Int), (j : Int)].map .int), .tuple ([(i : Int), (j : Int)].map .int), .tup (SqT.of hq) (dp_ints _), .tup (SqT.of hq12) (dp_ints _), shapedTI _, shapedTI _, _, rfl, ifF (by rw [eqvTI]; rfl) ?_⟩
        refine ⟨_, rfl, g, _, rfl, hg12, fun l2 hl2 => ?_⟩
        have sl2 := same_new (o := .lst (sv ns)) hl2
        have s14 := s13.trans sl2
        refine ⟨_, rfl, .list (pd ns), .list (pd ns), .lst (xs := sv ns) (SqL.of upd_same) (dp_pd ns), .lst (xs := sv ns) (s14.seq hO) (dp_pd ns), shaped_pd hz, shaped_pd hz, _, rfl, ifF (by rw [eqv_pd hz]; rfl) ?_⟩
        have hqa := sl2 _ _ hq
        have hqb := sl2 _ _ hq12
        have at0 : atI (iv [(i : Int), (j : Int)]) 0 = some (V.int (i : Int)) := by
          show atI _ ((0 : Nat) : Int) = _
          exact atI_nat rfl
        have at1 : atI (iv [(i : Int), (j : Int)]) 1 = some (V.int (j : Int)) := by
          show atI _ ((1 : Nat) : Int) = _
          exact atI_nat rfl
        refine ⟨_, rfl, rfl, _, rfl, itNeN (fun z => nomatch z) ?_⟩
        refine ⟨_, rfl, _, _, _, _, true, rfl, .ty _, .base (.tup hqa), kit_ty (by decide +kernel), true, rfl, iteF ?_⟩
        refine ⟨_, rfl, q, _, _, _, rfl, rfl, SqT.of hqa, at0, _, rfl, q', _, _, _, rfl, rfl, SqT.of hqb, at0, _, _, rfl, ⟨_, rfl, ifF (by rw [decide_eq_true rfl]; rfl) ?_⟩⟩
        refine ⟨_, rfl, rfl, _, rfl, itNeN (fun z => nomatch z) ?_⟩
        refine ⟨_, rfl, q, _, _, _, rfl, rfl, SqT.of hqa, at1, _, rfl, q', _, _, _, rfl, rfl, SqT.of hqb, at1, _, _, rfl, ⟨_, rfl, ifF (by rw [decide_eq_true rfl]; rfl) ?_⟩⟩
        exact ⟨stD.trans (s12.trans sl2), _, _, rfl⟩
    · rintro σ H9 ⟨s9, u6, u7, rfl⟩
      exact k _ (s7.trans s9)
end
end My
set_option maxRecDepth 100000
set_option maxHeartbeats 4000000
set_option exponentiation.threshold 10000
namespace My
open PySem L2 PySem.W
open C8 (pss_cut)
theorem gapS_len (cs : List Str) (rs : List (List Str)) (ns : List Str) : (gapS cs rs ns).length = ns.length - 1 := by
  unfold gapS gaps
  rw [List.length_mergeSort, List.length_map, List.length_range]
section
variable {P : Program} {w : World} {K : PySem.W.Frag} {mg : Str → Option Value} {base : Heap} {A : Ad}
def spGapsAre (C : Addr) (K : PySem.W.Frag) : Sp := fun vs H Q _ => ∃ (p o r : Addr) (cs ns : List Str) (ts : List Addr) (rs : List (List Str)), vs = [.ref p, .ref o, .ref r] ∧ Tb C H p cs rs ∧ SqL K H o (sv ns) ∧ SqL K H r (ts.map V.ref) ∧ Lss .lst H ts rs ∧ ns.length ≤ 1000 ∧ rs.length ≤ 1000 ∧ cs.Nodup ∧ fault cs ns = none ∧ ∀ H', Same H H' → Q (.bl true) H'
theorem ok_gapsAre (T : Txt P K mg A) : FnOk P w K mg base CX0 5 A.a_law_gaps_are A.d_law_gaps_are ["table", "order", "rows"] (spGapsAre A.C_Table K) := by
  have G_gap_rows := ok_gaps (P := P) (w := w) (base := base) T
  have G_law_numbers_areT := ok_numsAreT (P := P) (w := w) (base := base) T
  refine T.F_law_gaps_are.ok sc_law_gaps_are (fun vs H Q E h => ?_) (fun cdv A' outer s H vs Q E hr h => ?_)
  · obtain ⟨p, o, r, cs, ns, ts, rs, rfl, _⟩ := h
    rfl
  · obtain ⟨p, o, r, cs, ns, ts, rs, rfl, hT, hO, hR, hts, hl, hrl, nc, hf, k⟩ := h
    refine ⟨_, (pss_cons (ps_set (i := 3) sc_law_gaps_are.nd rfl (Or.inl rfl) (pe_call G_gap_rows (hr.mono (by decide)) rfl T.mg_gap_rows T.F_gap_rows.kp T.b_gap_rows .nil pass0 (pa_cons (pv 0) (pa_cons (pe_callTy call_list_of (by rfl) T.n_list (by decide +kernel) (pa_cons (pv 1) pa_nil)) pa_nil))))
      (pss_cons (ps_set (i := 4) sc_law_gaps_are.nd rfl (Or.inl rfl) (pe_lst pa_nil))
      (pss_cons (ps_for PassesOwn.never rfl (pi_range1 (by rfl) T.n_range (pa_cons (pe_op op_sub (pe_callB call_len_seq (by rfl) T.n_len (by decide +kernel) (pa_cons (pv 1) pa_nil)) pe_int) pa_nil)) (pg_name (i := 5) sc_law_gaps_are.nd rfl (Or.inr rfl))
        (pss_one (ps_expr (pe_bm PySem.F.plainAttrs_list PySem.F.slot_list_append PySem.F.type_list_append mt_append (pv 4) (pa_cons (pe_lc (own := [("i", 6)]) (g := gName 6) (tt := _) rfl sc_law_gaps_are.nd (pi_range1 (by rfl) T.n_range (pa_cons (pe_callB call_len_seq (by rfl) T.n_len (by decide +kernel) (pa_cons (pv 2) pa_nil)) pa_nil)) (blkOk_by (N := ["table", "order", "rows", "found", "due", "k", "i"]) (sc := defScope s_law_gaps_are) (by decide +kernel)) (fun _ _ _ _ _ => (pg_name (i := 6) sc_law_gaps_are.nd rfl (Or.inl rfl))) (fun _ _ _ _ _ => (pts_one (PW.pt (pw_and (pt_cmpR (show OpR _ _ (rIn K false) from op_in_seq) (pe_ix (show IxR _ (rIxL K) from ix_list) (pv 1) (pv 5) (fun _ _ => rfl)) (pe_ix (show IxR _ (rIxL K) from ix_list) (pv 2) (pv 6) (fun _ _ => rfl)) (by with_unfolding_all rfl)) (pw_and1 (pt_cmpR (show OpR _ _ (rIn K false) from op_in_seq) (pe_ix (show IxR _ (rIxL K) from ix_list) (pv 1) (pe_op op_add (pv 5) pe_int) (fun _ _ => rfl)) (pe_ix (show IxR _ (rIxL K) from ix_list) (pv 2) (pv 6) (fun _ _ => rfl)) (by with_unfolding_all rfl))))))) (fun _ _ _ _ _ => (pv 6))) pa_nil)))))
      (pss_cons (ps_set (i := 4) sc_law_gaps_are.nd rfl (Or.inl rfl) (pe_callB (cr_sortLI (hu10 hr)) (by rfl) T.n_sorted (by decide +kernel) (pa_cons (pv 4) pa_nil)))
      (pss_cons (ps_if (PW.pt (pw_or (pt_not (pt_val (pe_callB call_isi (by rfl) T.n_isinstance (by decide +kernel) (pa_cons (pv 3) (pa_cons (pe_bltn (v := .ty "list") (by rfl) T.n_list (by decide +kernel) rfl) pa_nil))))) (pw_or1 (pt_cmpR op_ne (pe_callB call_len_seq (by rfl) T.n_len (by decide +kernel) (pa_cons (pv 3) pa_nil)) (pe_callB call_len_seq (by rfl) T.n_len (by decide +kernel) (pa_cons (pv 4) pa_nil)) (nomark _))))) (pss_one (ps_ret pe_bl)) pss_nil)
      (pss_cons (ps_for PassesOwn.never rfl (pi_range1 (by rfl) T.n_range (pa_cons (pe_callB call_len_seq (by rfl) T.n_len (by decide +kernel) (pa_cons (pv 4) pa_nil)) pa_nil)) (pg_name (i := 5) sc_law_gaps_are.nd rfl (Or.inr rfl))
        (pss_one (ps_if (PW.pt (pw_or (pt_not (pt_val (pe_callB call_isi (by rfl) T.n_isinstance (by decide +kernel) (pa_cons (pe_ix ix_list (pv 3) (pv 5) (fun _ _ => rfl)) (pa_cons (pe_bltn (v := .ty "tuple") (by rfl) T.n_tuple (by decide +kernel) rfl) pa_nil))))) (pw_or1 (pt_not (pt_val (pe_call G_law_numbers_areT (hr.mono (by decide)) rfl T.mg_law_numbers_are T.F_law_numbers_are.kp T.b_law_numbers_are .nil pass0 (pa_cons (pe_ix ix_list (pv 3) (pv 5) (fun _ _ => rfl)) (pa_cons (pe_ix ix_list (pv 4) (pv 5) (fun _ _ => rfl)) pa_nil)))))))) (pss_one (ps_ret pe_bl)) pss_nil)))
      (pss_one (ps_ret pe_bl)))))))), ?_⟩
    obtain ⟨hns, ndn, hperm⟩ := perm_of_fault nc hf
    refine ⟨_, rfl, _, rfl, o, _, rfl, .inl hO, fun g hg => ?_⟩
    have sg := same_new (o := .lst (sv ns)) hg
    refine ⟨p, g, cs, rs, ns, rfl, hT.same sg, SqL.of upd_same, hl, hf, hrl, fun q H1 xs s1 hq0 hq hxs => ?_⟩
    have s1 := sg.trans s1
    refine ⟨by show 0 ≤ sizeLine; decide, fun D hD => ?_⟩
    have ln := len_sv ns
    have e1 : ((((sv ns).length : Nat) : Int) - 1).toNat = ns.length - 1 := by omega
    have sD := same_new (o := .lst []) hD
    refine ⟨_, rfl, o, _, rfl, .inl ((s1.trans sD).seq hO), _, _, rfl, rfl, _, rfl, by omega, by omega, ?_⟩
    refine for_range (n := ((((sv ns).length : Nat) : Int) - 1).toNat) (fun j σ H6 => LcI .lst H1 D ((List.range j).map (gap cs rs ns)) H6 ∧ ∃ u5 u6 : Option V, σ = [some (.ref p), some (.ref o), some (.ref r), some (.ref q), some (.ref D), u5, u6]) ⟨lci0 hD, none, none, rfl⟩ ?_ ?_
    · rintro j σ H6 hj ⟨q6, u5, u6, rfl⟩
      rw [e1] at hj
      have s6 := s1.trans q6.1
      have hj0 : (0 : Int) + (j : Int) = (j : Int) := by omega
      have hj1 : (0 : Int) + (j : Int) + 1 = ((j + 1 : Nat) : Int) := by omega
      have at1 : atI (sv ns) (0 + (j : Int)) = some (V.str (ns.getD j Str.empty)) := by rw [hj0]; exact at_svn (by omega)
      have at2 : atI (sv ns) (0 + (j : Int) + 1) = some (V.str (ns.getD (j + 1) Str.empty)) := by rw [hj1]; exact at_svn (by omega)
      have in1 : ns.getD j Str.empty ∈ cs := hns _ (by rw [List.getD_eq_getElem?_getD, List.getElem?_eq_getElem (by omega)]; exact List.getElem_mem _)
      have in2 : ns.getD (j + 1) Str.empty ∈ cs := hns _ (by rw [List.getD_eq_getElem?_getD, List.getElem?_eq_getElem (by omega)]; exact List.getElem_mem _)
      have hlen : (ts.map V.ref).length = rs.length := by rw [List.length_map, hts.len]
      obtain ⟨xs6, hd6, _⟩ := q6.2
      refine ⟨_, rfl, .inl ⟨rfl, _, SqL.of hd6⟩, ?_⟩
      refine ⟨_, rfl, r, _, rfl, .inl (s6.seq hR), ?_⟩
      rw [hlen]
      refine ⟨_, rfl, by omega, by omega, fun D2 hD2 => lc_range (n := rs.length) (PvS H6 D2 fun i => ((List.range i).filter fun i => (both cs (ns.getD j Str.empty) (ns.getD (j + 1) Str.empty)) (rs.getD i [])).map fun n => V.int (n : Nat)) (pv0 hD2 rfl) ?_ ?_⟩
      · rintro i H8 hi q8
        have s8 := s6.trans q8.1
        have hi0 : (0 : Int) + (i : Int) = (i : Int) := by omega
        obtain ⟨t, y, et, ey, hty⟩ := (hts.same s8).ex hi
        have atR : atI (ts.map V.ref) (0 + (i : Int)) = some (V.ref t) := by rw [hi0]; exact atR_of et
        refine ⟨rfl, _, rfl, _, rfl, o, _, _, _, rfl, rfl, s8.seq hO, at1, _, rfl, _, rfl, r, _, _, _, rfl, rfl, s8.seq hR, atR, t, _, rfl, .inl (SqL.of hty), rfl, flat_sv _, _, rfl, ?_⟩
        rw [if_neg Bool.false_ne_true, inV_str]
        have bo : both cs (ns.getD j Str.empty) (ns.getD (j + 1) Str.empty) y = (decide (ns.getD j Str.empty ∈ y) && decide (ns.getD (j + 1) Str.empty ∈ y)) := by
          unfold both
          rw [show decide (ns.getD j Str.empty ∈ canon cs y) = decide (ns.getD j Str.empty ∈ y) from decide_eq_decide.mpr ⟨fun z => (canon_mem.mp z).2, fun z => canon_mem.mpr ⟨in1, z⟩⟩,
            show decide (ns.getD (j + 1) Str.empty ∈ canon cs y) = decide (ns.getD (j + 1) Str.empty ∈ y) from decide_eq_decide.mpr ⟨fun z => (canon_mem.mp z).2, fun z => canon_mem.mpr ⟨in2, z⟩⟩]
        by_cases h1 : ns.getD j Str.empty ∈ y
        · refine ifT (decide_eq_true h1) ⟨_, rfl, _, rfl, _, _, rfl, rfl, o, _, _, _, rfl, rfl, s8.seq hO, at2, _, rfl, _, rfl, r, _, _, _, rfl, rfl, s8.seq hR, atR, t, _, rfl, .inl (SqL.of hty), rfl, flat_sv _, _, rfl, ?_⟩
          rw [if_neg Bool.false_ne_true, inV_str]
          by_cases h2 : ns.getD (j + 1) Str.empty ∈ y
          · refine ifT (decide_eq_true h2) ⟨_, rfl, ?_⟩
            rw [hi0]
            exact q8.push hD2 (numsT (f := both cs _ _) ey (by rw [bo, decide_eq_true h1, decide_eq_true h2]; rfl)) (nums_len _ _ i (by omega))
          · exact ifF (decide_eq_false h2) (q8.skip (numsF (f := both cs _ _) ey (by rw [bo, decide_eq_false h2, Bool.and_false])))
        · exact ifF (decide_eq_false h1) (iteF (q8.skip (numsF (f := both cs _ _) ey (by rw [bo, decide_eq_false h1]; rfl))))
      rintro H8 ⟨s8, h8⟩
      have h8 : H8 D2 = some (.lst (iv (gap cs rs ns j))) := by
        rw [h8]; unfold gap; rw [ni_iv]; rfl
      obtain ⟨acc, y1, y2, y3⟩ := q6.push (b := gap cs rs ns j) hD s8 h8 (ne_of_none hd6 hD2).symm (by rw [List.length_map, List.length_range]; omega)
      refine ⟨D, acc, _, rfl, rfl, y1, y2, ?_, _, _, rfl⟩
      rw [List.range_succ, List.map_append]
      exact y3
    · rintro σ H6 ⟨q6, u5, u6, rfl⟩
      rw [e1] at q6
      have s6 := q6.1
      obtain ⟨xs6, hd6, hx6⟩ := q6.fin
      refine ⟨_, rfl, D, xs6, gaps cs rs ns, fun x b => ∃ t, x = V.ref t ∧ H6 t = some (.lst (iv b)), rfl, SqL.of hd6, hx6, fun x b ⟨t, e, ht⟩ => by rw [e]; exact .lst (SqL.of ht) (dp_ints b), fun ys d hys hd => ?_⟩
      have hys : Lsi .lst (upd H6 d (.lst ys)) ys (gapS cs rs ns) := hys.mono fun x b ⟨t, e, ht⟩ => ⟨t, e, same_new hd _ _ ht⟩
      have s7 := s6.trans (same_new (o := .lst ys) hd)
      have hdd := upd_same (H := H6) (a := d) (o := .lst ys)
      have hq7 := s7 _ _ hq
      have hxs7 := hxs.same s7
      generalize upd H6 d _ = H7 at hys s7 hdd hq7 hxs7 ⊢
      have l1 := gapS_len cs rs ns
      have ly : ys.length = ns.length - 1 := by rw [hys.length, l1]
      have lx : xs.length = ns.length - 1 := by rw [hxs.length, l1]
      refine ⟨_, rfl, _, _, _, _, true, rfl, .ty _, .base (.lst hq7), kit_ty (by decide +kernel), true, rfl, iteF ?_⟩
      refine ⟨_, rfl, q, _, rfl, .inl (SqL.of hq7), _, rfl, d, _, rfl, .inl (SqL.of hdd), rfl, _, rfl, itNe (by rw [ly, lx]) ?_⟩
      refine ⟨_, rfl, d, _, rfl, .inl (SqL.of hdd), _, rfl, by omega, by omega, ?_⟩
      have e2 : (((ys.length : Nat) : Int)).toNat = ns.length - 1 := by rw [ly]; omega
      refine for_range (n := (((ys.length : Nat) : Int)).toNat) (fun j σ H8 => Same H7 H8 ∧ ∃ u5 u6 : Option V, σ = [some (.ref p), some (.ref o), some (.ref r), some (.ref q), some (.ref d), u5, u6]) ⟨Same.refl _, _, _, rfl⟩ ?_ ?_
      · rintro j σ H8 hj ⟨s8, u5, u6, rfl⟩
        rw [e2] at hj
        have hj0 : (0 : Int) + (j : Int) = (j : Int) := by omega
        obtain ⟨t1, b1, et1, eb1, h1⟩ := (hxs7.same s8).get (i := j) (by rw [l1]; exact hj)
        obtain ⟨t2, b2, et2, eb2, h2⟩ := (hys.same s8).get (i := j) (by rw [l1]; exact hj)
        have eb : b2 = b1 := by rw [eb1] at eb2; exact (Option.some.inj eb2).symm
        subst eb
        have at1 : atI xs (0 + (j : Int)) = some (V.ref t1) := by rw [hj0]; exact atI_nat et1
        have at2 : atI ys (0 + (j : Int)) = some (V.ref t2) := by rw [hj0]; exact atI_nat et2
        refine ⟨_, rfl, _, rfl, q, _, _, _, rfl, rfl, SqL.of (s8 _ _ hq7), at1, _, _, _, _, true, rfl, .ty _, .base (.tup h1), kit_ty (by decide +kernel), true, rfl, iteF ?_⟩
        refine ⟨_, rfl, _, rfl, q, _, _, _, rfl, rfl, SqL.of (s8 _ _ hq7), at1, _, rfl, _, rfl, d, _, _, _, rfl, rfl, SqL.of (s8 _ _ hdd), at2, t1, t2, b2, rfl, SqT.of h1, SqL.of h2, fun H9 s9 => ⟨_, rfl, iteF ⟨s8.trans s9, _, _, rfl⟩⟩⟩
      · rintro σ H8 ⟨s8, u5, u6, rfl⟩
        exact k _ (s1.trans (s7.trans s8))
end
end My
set_option maxRecDepth 100000
set_option maxHeartbeats 4000000
set_option exponentiation.threshold 10000
namespace My
open PySem L2 PySem.W
open C8 (pss_cut)
theorem dp_lsi {K : PySem.W.Frag} {H : Hp} : ∀ {xs : List V} {bs : List (List Int)}, Lsi .tup H xs bs → DpAll K H xs (bs.map encT)
  | _, _, .nil => .nil
  | _, _, .cons ⟨t, e, h⟩ r => .cons (by rw [e]; exact .tup (SqT.of h) (dp_ints _)) (dp_lsi r)
theorem layTT (bs : List (List Int)) : PyData.canLayAll0 (bs.map encT) = true := by
  induction bs with
  | nil => rfl
  | cons a t ih =>
    show (PyData.canLay0 (encT a) && PyData.canLayAll0 (t.map encT)) = true
    rw [ih, show PyData.canLay0 (encT a) = true by show PyData.canLay0 (.tuple _) = true; simp only [PyData.canLay0]; exact layI a]; rfl
theorem depTT : ∀ bs : List (List Int), PyData.depthAll (bs.map encT) ≤ 2
  | [] => by simp [PyData.depthAll]
  | a :: t => by
    have h1 : PyData.depthAll (t.map encT) ≤ 2 := depTT t
    have h2 := depth_encT a
    simp only [List.map_cons, PyData.depthAll]
    rw [h2]; omega
theorem shapedTT (bs : List (List Int)) : SeqAt.shaped (.list (bs.map encT)) = true := by
  show (PyData.canLay0 (.list (bs.map encT)) && decide (PyData.depth (.list (bs.map encT)) ≤ 64)) = true
  rw [Bool.and_eq_true]
  exact ⟨by simp only [PyData.canLay0]; exact layTT bs, decide_eq_true (by simp only [PyData.depth]; have := depTT bs; omega)⟩
theorem eqvTT (bs : List (List Int)) : PyData.eqv (.list (bs.map encT)) (.list (bs.map encT)) = true := SeqAt.eqv_refl _ (by simp only [PyData.canLay0]; exact layTT bs)
/-- rows over the columns cs -/
def RowsOk (cs : List Str) (rs : List (List Str)) : Prop := ∀ x ∈ rs, x.Nodup ∧ ∀ y ∈ x, y ∈ cs
section
variable {P : Program} {w : World} {K : PySem.W.Frag} {mg : Str → Option Value} {base : Heap} {A : Ad}
def spOrderIs (C : Addr) (K : PySem.W.Frag) : Sp := fun vs H Q _ => ∃ (p r o : Addr) (cs ns : List Str) (ts : List Addr) (rs : List (List Str)), vs = [.ref p, .ref r, .ref o] ∧ Tb C H p cs rs ∧ SqL K H r (ts.map V.ref) ∧ Lss .lst H ts rs ∧ SqL K H o (sv ns) ∧ ns.length ≤ 1000 ∧ rs.length ≤ 1000 ∧ cs.Nodup ∧ cs.length ≤ 12 ∧ RowsOk cs rs ∧ (∀ z ∈ ns, Okz z) ∧ fault cs ns = none ∧ ∀ H', Same H H' → Q (.bl true) H'
theorem ok_orderIs (T : Txt P K mg A) : FnOk P w K mg base CX0 8 A.a_law_order_is A.d_law_order_is ["table", "rows", "order"] (spOrderIs A.C_Table K) := by
  have G_law_row_is := ok_rowIs (P := P) (w := w) (base := base) T
  have G_law_runs := ok_lruns (P := P) (w := w) (base := base) T
  have G_broken := ok_broken (P := P) (w := w) (base := base) T
  have G_brokenT := ok_brokenT (P := P) (w := w) (base := base) T
  have G_law_numbers_are := ok_numsAre (P := P) (w := w) (base := base) T
  have G_check_order := ok_check (P := P) (w := w) (base := base) T
  have G_check_orderT := ok_checkT (P := P) (w := w) (base := base) T
  have G_is_layout := ok_lay (P := P) (w := w) (base := base) T
  have G_is_layoutT := ok_layT (P := P) (w := w) (base := base) T
  have G_gap_rows := ok_gaps (P := P) (w := w) (base := base) T
  have G_gap_rowsT := ok_gapsT (P := P) (w := w) (base := base) T
  have G_law_no_row := ok_noRow (P := P) (w := w) (base := base) T
  have G_law_gaps_are := ok_gapsAre (P := P) (w := w) (base := base) T
  refine T.F_law_order_is.ok sc_law_order_is (fun vs H Q E h => ?_) (fun cdv A' outer s H vs Q E hr h => ?_)
  · obtain ⟨p, r, o, cs, ns, ts, rs, rfl, _⟩ := h
    rfl
  · obtain ⟨p, r, o, cs, ns, ts, rs, rfl, hT, hR, hts, hO, hl, hrl, nc, hcl, hok, hz, hf, k⟩ := h
    refine ⟨_, (pss_cons (ps_for PassesOwn.never rfl (pi_range1 (by rfl) T.n_range (pa_cons (pe_callB call_len_seq (by rfl) T.n_len (by decide +kernel) (pa_cons (pv 1) pa_nil)) pa_nil)) (pg_name (i := 3) sc_law_order_is.nd rfl (Or.inl rfl))
        (pss_one (ps_if (pt_not (pt_val (pe_call G_law_row_is (hr.mono (by decide)) rfl T.mg_law_row_is T.F_law_row_is.kp T.b_law_row_is .nil pass0 (pa_cons (pv 0) (pa_cons (pv 2) (pa_cons (pe_ix ix_list (pv 1) (pv 3) (fun _ _ => rfl)) (pa_cons (pv 3) pa_nil))))))) (pss_one (ps_ret pe_bl)) pss_nil)))
      (pss_cons (ps_set (i := 4) sc_law_order_is.nd rfl (Or.inl rfl) (pe_callTy call_list_of (by rfl) T.n_list (by decide +kernel) (pa_cons (pv 2) pa_nil)))
      (pss_cons (ps_setLc (i := 5) (own := [("i", 3)]) (g := gName 3) (tt := _) rfl sc_law_order_is.nd rfl rfl (sw_true rfl rfl rfl (by decide +kernel)) (pi_range1 (by rfl) T.n_range (pa_cons (pe_callB call_len_seq (by rfl) T.n_len (by decide +kernel) (pa_cons (pv 1) pa_nil)) pa_nil)) (blkOk_by (N := ["table", "rows", "order", "i", "given", "wrong", "found", "told", "number"]) (sc := defScope s_law_order_is) (by decide +kernel)) (fun _ _ _ _ _ => (pg_name (i := 3) sc_law_order_is.nd rfl (Or.inl rfl))) (fun _ _ _ _ _ => (pts_one (pt_cmpR op_gt (pe_call G_law_runs (hr.mono (by decide)) rfl T.mg_law_runs T.F_law_runs.kp T.b_law_runs .nil pass0 (pa_cons (pv 2) (pa_cons (pe_ix (show IxR _ (rIxL K) from ix_list) (pv 1) (pv 3) (fun _ _ => rfl)) pa_nil))) pe_int (nomark _)))) (fun _ _ _ _ _ => (pv 3)))
      (pss_cons (ps_set (i := 6) sc_law_order_is.nd rfl (Or.inl rfl) (pe_call G_broken (hr.mono (by decide)) rfl T.mg_broken T.F_broken.kp T.b_broken .nil pass0 (pa_cons (pv 0) (pa_cons (pv 4) pa_nil))))
      (pss_cons (ps_if (PW.pt (pw_or (pt_not (pt_val (pe_callB call_isi (by rfl) T.n_isinstance (by decide +kernel) (pa_cons (pv 6) (pa_cons (pe_bltn (v := .ty "list") (by rfl) T.n_list (by decide +kernel) rfl) pa_nil))))) (pw_or1 (pt_not (pt_val (pe_call G_law_numbers_are (hr.mono (by decide)) rfl T.mg_law_numbers_are T.F_law_numbers_are.kp T.b_law_numbers_are .nil pass0 (pa_cons (pv 6) (pa_cons (pv 5) pa_nil)))))))) (pss_one (ps_ret pe_bl)) pss_nil)
      (pss_cons (ps_expr (pe_bm PySem.F.plainAttrs_list PySem.F.slot_list_append PySem.F.type_list_append mt_append (pv 6) (pa_cons pe_int pa_nil)))
      (pss_cons (ps_if (PW.pt (pw_or (pt_not (pt_val (pe_call G_law_numbers_are (hr.mono (by decide)) rfl T.mg_law_numbers_are T.F_law_numbers_are.kp T.b_law_numbers_are .nil pass0 (pa_cons (pe_call G_brokenT (hr.mono (by decide)) rfl T.mg_broken T.F_broken.kp T.b_broken .nil pass0 (pa_cons (pv 0) (pa_cons (pe_callTy call_tuple_of (by rfl) T.n_tuple (by decide +kernel) (pa_cons (pv 2) pa_nil)) pa_nil))) (pa_cons (pv 5) pa_nil))))) (pw_or1 (pt_cmpR op_notN (pe_call G_check_orderT (hr.mono (by decide)) rfl T.mg_check_order T.F_check_order.kp T.b_check_order .nil pass0 (pa_cons (pv 0) (pa_cons (pe_callTy call_tuple_of (by rfl) T.n_tuple (by decide +kernel) (pa_cons (pv 2) pa_nil)) pa_nil))) pe_non (nomark _))))) (pss_one (ps_ret pe_bl)) pss_nil)
      (pss_cons (ps_set (i := 7) sc_law_order_is.nd rfl (Or.inl rfl) (pe_call G_is_layoutT (hr.mono (by decide)) rfl T.mg_is_layout T.F_is_layout.kp T.b_is_layout .nil pass0 (pa_cons (pv 0) (pa_cons (pe_callTy call_tuple_of (by rfl) T.n_tuple (by decide +kernel) (pa_cons (pv 2) pa_nil)) pa_nil))))
      (pss_cons (ps_if (PW.pt (pw_or (pt_cmpR (op_neD hr.units) (pe_call G_gap_rowsT (hr.mono (by decide)) rfl T.mg_gap_rows T.F_gap_rows.kp T.b_gap_rows .nil pass0 (pa_cons (pv 0) (pa_cons (pe_callTy call_tuple_of (by rfl) T.n_tuple (by decide +kernel) (pa_cons (pv 2) pa_nil)) pa_nil))) (pe_call G_gap_rows (hr.mono (by decide)) rfl T.mg_gap_rows T.F_gap_rows.kp T.b_gap_rows .nil pass0 (pa_cons (pv 0) (pa_cons (pe_callTy call_list_of (by rfl) T.n_list (by decide +kernel) (pa_cons (pv 2) pa_nil)) pa_nil))) (nomark _)) (pw_or (pt_not (pt_val (pe_callB call_isi (by rfl) T.n_isinstance (by decide +kernel) (pa_cons (pv 7) (pa_cons (pe_bltn (v := .ty "bool") (by rfl) T.n_bool (by decide +kernel) rfl) pa_nil))))) (pw_or1 (pt_cmpR op_ne (pv 7) (pe_cmpR op_eq (pe_callB call_len_seq (by rfl) T.n_len (by decide +kernel) (pa_cons (pv 5) pa_nil)) pe_int (nomark _)) (nomark _)))))) (pss_one (ps_ret pe_bl)) pss_nil)
      (pss_cons (ps_set (i := 7) sc_law_order_is.nd rfl (Or.inl rfl) (pe_call G_is_layout (hr.mono (by decide)) rfl T.mg_is_layout T.F_is_layout.kp T.b_is_layout .nil pass0 (pa_cons (pv 0) (pa_cons (pv 4) pa_nil))))
      (pss_cons (ps_if (PW.pt (pw_or (pt_not (pt_val (pe_callB call_isi (by rfl) T.n_isinstance (by decide +kernel) (pa_cons (pv 7) (pa_cons (pe_bltn (v := .ty "bool") (by rfl) T.n_bool (by decide +kernel) rfl) pa_nil))))) (pw_or1 (pt_cmpR op_ne (pv 7) (pe_cmpR op_eq (pe_callB call_len_seq (by rfl) T.n_len (by decide +kernel) (pa_cons (pv 5) pa_nil)) pe_int (nomark _)) (nomark _))))) (pss_one (ps_ret pe_bl)) pss_nil)
      (pss_cons (ps_if (PW.pt (pw_or (pt_cmpR op_notN (pe_call G_check_order (hr.mono (by decide)) rfl T.mg_check_order T.F_check_order.kp T.b_check_order .nil pass0 (pa_cons (pv 0) (pa_cons (pv 4) pa_nil))) pe_non (nomark _)) (pw_or1 (pt_cmpR (op_neD hr.units) (pv 4) (pv 2) (nomark _))))) (pss_one (ps_ret pe_bl)) pss_nil)
      (pss_cons (ps_for PassesOwn.never rfl (pi_list (pe_lst (pa_cons (pe_un un_neg pe_int) (pa_cons (pe_op op_sub (pe_un un_neg pe_int) (pe_callB call_len_seq (by rfl) T.n_len (by decide +kernel) (pa_cons (pv 1) pa_nil))) (pa_cons (pe_op op_sub (pe_un un_neg pe_int) (pe_callB call_len_seq (by rfl) T.n_len (by decide +kernel) (pa_cons (pv 1) pa_nil))) (pa_cons (pe_callB call_len_seq (by rfl) T.n_len (by decide +kernel) (pa_cons (pv 1) pa_nil)) (pa_cons (pe_op op_add (pe_callB call_len_seq (by rfl) T.n_len (by decide +kernel) (pa_cons (pv 1) pa_nil)) pe_int) pa_nil))))))) (pg_name (i := 8) sc_law_order_is.nd rfl (Or.inl rfl))
        (pss_one (ps_if (PW.pt (pw_or (pt_not (pt_val (pe_call G_law_no_row (hr.mono (by decide)) rfl T.mg_law_no_row T.F_law_no_row.kp T.b_law_no_row .nil pass0 (pa_cons pe_int (pa_cons (pv 0) (pa_cons (pe_callTy call_list_of (by rfl) T.n_list (by decide +kernel) (pa_cons (pv 2) pa_nil)) (pa_cons (pv 8) pa_nil))))))) (pw_or1 (pt_not (pt_val (pe_call G_law_no_row (hr.mono (by decide)) rfl T.mg_law_no_row T.F_law_no_row.kp T.b_law_no_row .nil pass0 (pa_cons pe_int (pa_cons (pv 0) (pa_cons (pe_callTy call_list_of (by rfl) T.n_list (by decide +kernel) (pa_cons (pv 2) pa_nil)) (pa_cons (pv 8) pa_nil)))))))))) (pss_one (ps_ret pe_bl)) pss_nil)))
      (pss_one (ps_ret (pe_call G_law_gaps_are (hr.mono (by decide)) rfl T.mg_law_gaps_are T.F_law_gaps_are.kp T.b_law_gaps_are .nil pass0 (pa_cons (pv 0) (pa_cons (pv 2) (pa_cons (pv 1) pa_nil))))))))))))))))))), ?_⟩
    have hlen : (ts.map V.ref).length = rs.length := by rw [List.length_map, hts.len]
    have rowLen : ∀ x ∈ rs, x.length ≤ 12 := fun x hx => Nat.le_trans (nodup_le (hok x hx).1 (hok x hx).2) hcl
    refine ⟨_, rfl, r, _, rfl, .inl hR, ?_⟩
    rw [hlen]
    refine ⟨_, rfl, by omega, by omega, for_range (n := rs.length) (fun i σ H2 => Same H H2 ∧ ∃ u3 : Option V, σ = [some (.ref p), some (.ref r), some (.ref o), u3, none, none, none, none, none]) ⟨Same.refl _, none, rfl⟩ ?_ ?_⟩
    · rintro i σ H2 hi ⟨s2, u3, rfl⟩
      have hi0 : (0 : Int) + (i : Int) = (i : Int) := by omega
      obtain ⟨t, y, et, ey, hty⟩ := (hts.same s2).ex hi
      have atR : atI (ts.map V.ref) (0 + (i : Int)) = some (V.ref t) := by rw [hi0]; exact atR_of et
      have oy := hok y (List.mem_of_getElem? ey)
      refine ⟨_, rfl, _, rfl, _, rfl, _, rfl, r, _, _, _, rfl, rfl, s2.seq hR, atR, _, rfl, p, o, t, i, cs, rs, ns, y, by rw [hi0]; rfl, hT.same s2, s2.seq hO, SqL.of hty, hl, nc, hf, ey, oy.1, oy.2, hz, Nat.le_trans (rowLen y (List.mem_of_getElem? ey)) (by decide), fun H3 s3 => ⟨_, rfl, iteF ⟨s2.trans s3, _, rfl⟩⟩⟩
    rintro σ H2 ⟨s2, u3, rfl⟩
    refine ⟨_, rfl, o, _, rfl, .inl (s2.seq hO), fun g hg => ?_⟩
    have sg := s2.trans (same_new (o := .lst (sv ns)) hg)
    have hg3 := upd_same (H := H2) (a := g) (o := .lst (sv ns))
    generalize upd H2 g _ = H3 at sg hg3 ⊢
    refine ⟨_, rfl, r, _, rfl, .inl (sg.seq hR), ?_⟩
    rw [hlen]
    refine ⟨_, rfl, by omega, by omega, fun D hD => lc_range (n := rs.length) (PvS H3 D fun i => ((List.range i).filter fun i => (fun r => decide (1 < rn ns cs r)) (rs.getD i [])).map fun n => V.int (n : Nat)) (pv0 hD rfl) ?_ ?_⟩
    · rintro i H8 hi q8
      have s8 := sg.trans q8.1
      have hi0 : (0 : Int) + (i : Int) = (i : Int) := by omega
      obtain ⟨t, y, et, ey, hty⟩ := (hts.same s8).ex hi
      have atR : atI (ts.map V.ref) (0 + (i : Int)) = some (V.ref t) := by rw [hi0]; exact atR_of et
      have oy := hok y (List.mem_of_getElem? ey)
      have hru := runs_law (ns := ns) nc hf oy.1 oy.2
      refine ⟨rfl, _, rfl, _, rfl, _, rfl, r, _, _, _, rfl, rfl, s8.seq hR, atR, o, t, ns, y, rfl, s8.seq hO, SqL.of hty, hl, fun H9 s9 => ⟨_, _, rfl, rfl, _, rfl, ?_⟩⟩
      have q9 := q8.more s9
      rw [← hru]
      by_cases h1 : 1 < runs (flags ns (canon cs y))
      · refine itY (show ((1 : Int) < ((runs (flags ns (canon cs y)) : Nat) : Int)) by omega) ⟨_, rfl, ?_⟩
        rw [hi0]
        exact q9.push hD (numsT (f := fun r => decide (1 < rn ns cs r)) ey (decide_eq_true h1)) (nums_len (fun r => decide (1 < rn ns cs r)) _ i (by omega))
      · exact itN (show ¬ ((1 : Int) < ((runs (flags ns (canon cs y)) : Nat) : Int)) by omega) (q9.skip (numsF (f := fun r => decide (1 < rn ns cs r)) ey (decide_eq_false h1)))
    rintro H4 ⟨s4, h4⟩
    have h4 : H4 D = some (.lst ((nums (fun r => decide (1 < rn ns cs r)) rs).map fun n => V.int (n : Nat))) := h4
    have hg4 := s4 _ _ hg3
    have s4 := sg.trans s4
    generalize hW : nums (fun r => decide (1 < rn ns cs r)) rs = W at h4
    clear sg s2 hg3 hD
    -- found
    refine ⟨_, rfl, _, rfl, p, g, cs, rs, ns, rfl, hT.same s4, SqL.of hg4, hl, hf, hrl, fun q H5 s5 hq0 hq5 => ?_⟩
    rw [hW] at hq5
    have hWi : iv (ni W) = W.map fun n => V.int (n : Nat) := ni_iv W
    rw [← hWi] at h4 hq5
    have s45 := s4.trans s5
    refine ⟨_, rfl, _, _, _, _, true, rfl, .ty _, .base (.lst hq5), kit_ty (by decide +kernel), true, rfl, iteF ?_⟩
    refine ⟨_, rfl, _, rfl, q, D, _, rfl, SqL.of hq5, SqL.of (s5 _ _ h4), fun H6 s6 => ⟨_, rfl, iteF ?_⟩⟩
    have hq6 := s6 _ _ hq5
    have s46 := s5.trans s6
    have hWl : W.length ≤ 1000 := by rw [← hW]; exact Nat.le_trans (nums_le _ _) hrl
    refine ⟨_, rfl, .inl ⟨rfl, _, SqL.of hq6⟩, q, _, _, rfl, rfl, hq6, small_int (by rw [List.length_map, List.length_map]; omega), ?_⟩
    generalize hX : upd H6 q _ = H7
    have s47 : Same H4 H7 := fun b o' e => by rw [← hX, upd_ne (ne_of_none e hq0)]; exact s46 _ _ e
    clear hX hq6 s46 s6 hq5 s5 s45
    have s7 := s4.trans s47
    have hD7 := s47 _ _ h4
    have hg7 := s47 _ _ hg4
    -- the tuple's numbers
    refine ⟨_, rfl, _, rfl, o, _, rfl, .inl ⟨s7.seq hO, fun t1 ht1 => ?_⟩⟩
    have st1 := same_new (o := .tup (sv ns)) ht1
    refine ⟨p, t1, cs, rs, ns, rfl, hT.same (s7.trans st1), SqT.of upd_same, hl, hf, hrl, fun q2 H8 s8 hq20 hq8 => ?_⟩
    rw [hW, ← hWi] at hq8
    have s78 := st1.trans s8
    refine ⟨_, rfl, q2, D, _, rfl, SqL.of hq8, SqL.of (s78 _ _ hD7), fun H9 s9 => ⟨_, rfl, iteF ?_⟩⟩
    have s79 := s78.trans s9
    have s9 := s7.trans s79
    refine ⟨_, rfl, _, rfl, o, _, rfl, .inl ⟨s9.seq hO, fun t2 ht2 => ?_⟩⟩
    have st2 := same_new (o := .tup (sv ns)) ht2
    refine ⟨p, t2, cs, rs, ns, rfl, hT.same (s9.trans st2), SqT.of upd_same, hl, hf, fun H10 s10 => ⟨rfl, _, rfl, itNe rfl ?_⟩⟩
    have s910 := st2.trans s10
    have s10 := s9.trans s910
    -- is_layout of the tuple
    refine ⟨_, rfl, _, rfl, o, _, rfl, .inl ⟨s10.seq hO, fun t3 ht3 => ?_⟩⟩
    have st3 := same_new (o := .tup (sv ns)) ht3
    refine ⟨p, t3, cs, rs, ns, rfl, hT.same (s10.trans st3), SqT.of upd_same, hl, hrl, fun H11 s11 => ?_⟩
    have s1011 := st3.trans s11
    have s11 := s10.trans s1011
    rw [hW, hf]
    have hb : (decide (((none : Option Nat)) = none) && decide (W.length = 0)) = decide (V.int (((iv (ni W)).length : Nat) : Int) = V.int 0) := by
      rw [decide_eq_true (rfl : (none : Option Nat) = none), Bool.true_and, List.length_map, List.length_map]
      exact decide_eq_decide.mpr ⟨fun e => by rw [e]; rfl, fun e => by have := V.int.inj e; omega⟩
    rw [hb]
    -- the gaps of both
    refine ⟨_, rfl, _, rfl, o, _, rfl, .inl ⟨s11.seq hO, fun t4 ht4 => ?_⟩⟩
    have st4 := same_new (o := .tup (sv ns)) ht4
    refine ⟨p, t4, cs, rs, ns, rfl, hT.same (s11.trans st4), SqT.of upd_same, hl, hf, hrl, fun q4 H12 xs4 s12 hq40 hq4 hx4 => ?_⟩
    have s1112 := st4.trans s12
    have s12 := s11.trans s1112
    refine ⟨_, rfl, _, rfl, o, _, rfl, .inl (s12.seq hO), fun l5 hl5 => ?_⟩
    have st5 := same_new (o := .lst (sv ns)) hl5
    refine ⟨p, l5, cs, rs, ns, rfl, hT.same (s12.trans st5), SqL.of upd_same, hl, hf, hrl, fun q5 H13 xs5 s13 hq50 hq5 hx5 => ?_⟩
    have s1213 := st5.trans s13
    have s13 := s12.trans s1213
    refine ⟨.list ((gapS cs rs ns).map encT), .list ((gapS cs rs ns).map encT), .lst (SqL.of (s1213 _ _ hq4)) (dp_lsi (hx4.same s1213)), .lst (SqL.of hq5) (dp_lsi hx5), shapedTT _, shapedTT _, _, rfl, ifF (by rw [eqvTT]; rfl) ?_⟩
    refine ⟨_, rfl, _, _, _, _, true, rfl, .ty _, .base (.bl _), kit_ty (by decide +kernel), true, rfl, iteF ?_⟩
    have s713 := s79.trans (s910.trans (s1011.trans (s1112.trans s1213)))
    have hD13 := s713 _ _ hD7
    have hg13 := s713 _ _ hg7
    refine ⟨_, rfl, _, rfl, D, _, rfl, .inl (SqL.of hD13), rfl, rfl, _, rfl, itNe rfl ?_⟩
    -- is_layout of the list
    refine ⟨_, rfl, _, rfl, p, g, cs, rs, ns, rfl, hT.same s13, SqL.of hg13, hl, hrl, fun H14 s14 => ?_⟩
    rw [hW, hf, hb]
    have hD14 := s14 _ _ hD13
    have hg14 := s14 _ _ hg13
    have s14 := s13.trans s14
    refine ⟨_, rfl, _, _, _, _, true, rfl, .ty _, .base (.bl _), kit_ty (by decide +kernel), true, rfl, iteF ?_⟩
    refine ⟨_, rfl, _, rfl, D, _, rfl, .inl (SqL.of hD14), rfl, rfl, _, rfl, itNe rfl ?_⟩
    -- check_order, the list as it was
    refine ⟨_, rfl, _, rfl, p, g, cs, rs, ns, rfl, hT.same s14, SqL.of hg14, hl, hf, fun H15 s15 => ⟨rfl, _, rfl, itNe rfl ?_⟩⟩
    have hg15 := s15 _ _ hg14
    have s15 := s14.trans s15
    refine ⟨_, rfl, _, rfl, .list (pd ns), .list (pd ns), .lst (xs := sv ns) (SqL.of hg15) (dp_pd ns), .lst (xs := sv ns) (s15.seq hO) (dp_pd ns), shaped_pd hz, shaped_pd hz, _, rfl, ifF (by rw [eqv_pd hz]; rfl) ?_⟩
    -- rows that nobody has
    refine ⟨_, rfl, _, rfl, _, rfl, r, _, rfl, .inl (s15.seq hR), _, _, rfl, rfl, _, rfl, _, rfl, r, _, rfl, .inl (s15.seq hR), _, _, rfl, rfl, _, rfl, r, _, rfl, .inl (s15.seq hR), _, rfl, r, _, rfl, .inl (s15.seq hR), _, _, rfl, rfl, by show 5 ≤ sizeLine; decide, fun l6 hl6 => ?_⟩
    have st6 := s15.trans (same_new (o := .lst [V.int (-1), V.int (-1 - (((ts.map V.ref).length : Nat) : Int)), V.int (-2 - (((ts.map V.ref).length : Nat) : Int)), V.int (((ts.map V.ref).length : Nat) : Int), V.int ((((ts.map V.ref).length : Nat) : Int) + 48)]) hl6)
    have hl7 := upd_same (H := H15) (a := l6) (o := .lst [V.int (-1), V.int (-1 - (((ts.map V.ref).length : Nat) : Int)), V.int (-2 - (((ts.map V.ref).length : Nat) : Int)), V.int (((ts.map V.ref).length : Nat) : Int), V.int ((((ts.map V.ref).length : Nat) : Int) + 48)])
    generalize upd H15 l6 _ = H16 at st6 hl7 ⊢
    refine ⟨l6, rfl, ⟨_, SqL.of hl7⟩, for_it walk_list (fun i σ H17 => Same H16 H17 ∧ ∃ (f : V) (u8 : Option V), σ = [some (.ref p), some (.ref r), some (.ref o), u3, some (.ref g), some (.ref D), some (.ref q), some f, u8]) ⟨Same.refl _, _, none, rfl⟩ (fun i σ H17 _ q => q.1.seq (SqL.of hl7)) ?_ ?_⟩
    · rintro i x σ H170 H17 hi ⟨s17, f, u8, rfl⟩ ⟨rfl, hx⟩
      obtain ⟨z, rfl, hout, habs⟩ : ∃ z : Int, x = V.int z ∧ ¬ (0 ≤ z ∧ z < rs.length) ∧ z.natAbs < 1000000 := by
        rw [hlen] at hx
        match i, hx with
        | 0, hx => cases hx; exact ⟨_, rfl, by omega, by omega⟩
        | 1, hx => cases hx; exact ⟨_, rfl, by omega, by omega⟩
        | 2, hx => cases hx; exact ⟨_, rfl, by omega, by omega⟩
        | 3, hx => cases hx; exact ⟨_, rfl, by omega, by omega⟩
        | 4, hx => cases hx; exact ⟨_, rfl, by omega, by omega⟩
      have s18 := st6.trans s17
      refine ⟨_, rfl, _, rfl, o, _, rfl, .inl (s18.seq hO), fun l8 hl8 => ?_⟩
      have st8 := same_new (o := .lst (sv ns)) hl8
      refine ⟨_, rfl, 0, p, l8, z, cs, rs, ns, rfl, hT.same (s18.trans st8), SqL.of upd_same, hl, hf, .inl rfl, hout, habs, fun H19 s19 => ⟨_, rfl, iteF ?_⟩⟩
      have s1719 := s17.trans (st8.trans s19)
      have s19 := st6.trans s1719
      refine ⟨_, rfl, _, rfl, o, _, rfl, .inl (s19.seq hO), fun l9 hl9 => ?_⟩
      have st9 := same_new (o := .lst (sv ns)) hl9
      exact ⟨_, rfl, 1, p, l9, z, cs, rs, ns, rfl, hT.same (s19.trans st9), SqL.of upd_same, hl, hf, .inr rfl, hout, habs, fun H20 s20 => ⟨_, rfl, iteF ⟨s1719.trans (st9.trans s20), _, _, rfl⟩⟩⟩
    rintro σ H17 ⟨s17, f, u8, rfl⟩
    have s18 := st6.trans s17
    exact ⟨_, rfl, _, rfl, _, rfl, p, o, r, cs, ns, ts, rs, rfl, hT.same s18, s18.seq hO, s18.seq hR, hts.same s18, hl, hrl, nc, hf, fun H19 s19 => k _ (s18.trans s19)⟩
end
end My
set_option maxRecDepth 100000
set_option maxHeartbeats 4000000
set_option exponentiation.threshold 10000
namespace My
open PySem L2 PySem.W
open C8 (pss_cut)
section
variable {P : Program} {w : World} {K : PySem.W.Frag} {mg : Str → Option Value} {base : Heap} {A : Ad}
def spListIs (C : Addr) (K : PySem.W.Frag) : Sp := fun vs H Q _ => ∃ (p c r o : Addr) (cs ns : List Str) (ts : List Addr) (rs : List (List Str)), vs = [.ref p, .ref c, .ref r, .ref o] ∧ Tb C H p cs rs ∧ SqL K H c (sv cs) ∧ SqL K H r (ts.map V.ref) ∧ Lss .lst H ts rs ∧ SqL K H o (sv ns) ∧ ns.length ≤ 1000 ∧ rs.length ≤ 1000 ∧ cs.Nodup ∧ cs.length ≤ 12 ∧ RowsOk cs rs ∧ (∀ z ∈ ns, Okz z) ∧ ∀ H', Same H H' → Q (.bl true) H'
theorem ok_listIs (T : Txt P K mg A) : FnOk P w K mg base CX0 9 A.a_law_list_is A.d_law_list_is ["table", "columns", "rows", "order"] (spListIs A.C_Table K) := by
  have G_law_misfit := ok_misfit (P := P) (w := w) (base := base) T
  have G_law_order_is := ok_orderIs (P := P) (w := w) (base := base) T
  have G_is_layout := ok_lay (P := P) (w := w) (base := base) T
  have G_law_refused := ok_refused (P := P) (w := w) (base := base) T
  refine T.F_law_list_is.ok sc_law_list_is (fun vs H Q E h => ?_) (fun cdv A' outer s H vs Q E hr h => ?_)
  · obtain ⟨p, c, r, o, cs, ns, ts, rs, rfl, _⟩ := h
    rfl
  · obtain ⟨p, c, r, o, cs, ns, ts, rs, rfl, hT, hC, hR, hts, hO, hl, hrl, nc, hcl, hok, hz, k⟩ := h
    refine ⟨_, (pss_cons (ps_set (i := 4) sc_law_list_is.nd rfl (Or.inl rfl) (pe_call G_law_misfit (hr.mono (by decide)) rfl T.mg_law_misfit T.F_law_misfit.kp T.b_law_misfit .nil pass0 (pa_cons (pv 1) (pa_cons (pv 3) pa_nil))))
      (pss_cons (ps_if (pt_cmpR op_isN (pv 4) pe_non (nomark _)) (pss_one (ps_ret (pe_call G_law_order_is (hr.mono (by decide)) rfl T.mg_law_order_is T.F_law_order_is.kp T.b_law_order_is .nil pass0 (pa_cons (pv 0) (pa_cons (pv 2) (pa_cons (pv 3) pa_nil)))))) pss_nil)
      (pss_cons (ps_if (pt_cmpR op_notBl (pe_call G_is_layout (hr.mono (by decide)) rfl T.mg_is_layout T.F_is_layout.kp T.b_is_layout .nil pass0 (pa_cons (pv 0) (pa_cons (pe_callTy call_list_of (by rfl) T.n_list (by decide +kernel) (pa_cons (pv 3) pa_nil)) pa_nil))) pe_bl (nomark _)) (pss_one (ps_ret pe_bl)) pss_nil)
      (pss_cons (ps_for PassesOwn.never rfl (pi_range1 (by rfl) T.n_range (pa_cons pe_int pa_nil)) (pg_name (i := 5) sc_law_list_is.nd rfl (Or.inl rfl))
        (pss_one (ps_for PassesOwn.never rfl (pi_list (pe_lst (pa_cons pe_int (pa_cons (pe_un un_neg pe_int) (pa_cons (pe_callB call_len_seq (by rfl) T.n_len (by decide +kernel) (pa_cons (pv 2) pa_nil)) pa_nil))))) (pg_name (i := 6) sc_law_list_is.nd rfl (Or.inl rfl))
        (pss_one (ps_if (pt_not (pt_val (pe_call G_law_refused (hr.mono (by decide)) rfl T.mg_law_refused T.F_law_refused.kp T.b_law_refused .nil pass0 (pa_cons (pv 5) (pa_cons (pv 0) (pa_cons (pv 3) (pa_cons (pv 6) (pa_cons (pv 4) pa_nil)))))))) (pss_one (ps_ret pe_bl)) pss_nil)))))
      (pss_one (ps_ret pe_bl)))))), ?_⟩
    refine ⟨_, rfl, _, rfl, c, o, cs, ns, rfl, hC, hO, by omega, hl, fun H1 s1 => ?_⟩
    cases hf : fault cs ns with
    | none =>
      refine ⟨_, rfl, rfl, _, rfl, itY rfl ?_⟩
      exact ⟨_, rfl, _, rfl, _, rfl, p, r, o, cs, ns, ts, rs, rfl, hT.same s1, s1.seq hR, hts.same s1, s1.seq hO, hl, hrl, nc, hcl, hok, hz, hf, fun H2 s2 => k _ (s1.trans s2)⟩
    | some j =>
      refine ⟨_, rfl, rfl, _, rfl, itN (fun z => nomatch z) ?_⟩
      refine ⟨_, rfl, _, rfl, o, _, rfl, .inl (s1.seq hO), fun l hl' => ?_⟩
      have st := s1.trans (same_new (o := .lst (sv ns)) hl')
      refine ⟨p, l, cs, rs, ns, rfl, hT.same st, SqL.of upd_same, hl, hrl, fun H2 s2 => ?_⟩
      rw [hf]
      have s2 := st.trans s2
      refine ⟨_, _, rfl, rfl, _, rfl, ifF rfl ?_⟩
      refine ⟨5, rfl, by decide, by decide, for_range (n := 5) (fun i σ H3 => Same H H3 ∧ ∃ u5 u6 : Option V, σ = [some (.ref p), some (.ref c), some (.ref r), some (.ref o), some (.int (j : Nat)), u5, u6]) ⟨s2, none, none, rfl⟩ ?_ ?_⟩
      · rintro i σ H3 hi ⟨s3, u5, u6, rfl⟩
        refine ⟨_, rfl, _, rfl, r, _, rfl, .inl (s3.seq hR), by show 3 ≤ sizeLine; decide, fun l3 hl3 => ?_⟩
        have st3 := s3.trans (same_new (o := .lst [V.int 0, V.int (-1), V.int (((ts.map V.ref).length : Nat) : Int)]) hl3)
        have hl4 := upd_same (H := H3) (a := l3) (o := .lst [V.int 0, V.int (-1), V.int (((ts.map V.ref).length : Nat) : Int)])
        generalize upd H3 l3 _ = H4 at st3 hl4 ⊢
        refine ⟨l3, rfl, ⟨_, SqL.of hl4⟩, for_it walk_list (fun i' σ H5 => Same H4 H5 ∧ ∃ u6 : Option V, σ = [some (.ref p), some (.ref c), some (.ref r), some (.ref o), some (.int (j : Nat)), some (.int (0 + (i : Int))), u6]) ⟨Same.refl _, _, rfl⟩ (fun i' σ H5 _ q => q.1.seq (SqL.of hl4)) ?_ ?_⟩
        · rintro i' x σ H50 H5 hi' ⟨s5, u6, rfl⟩ ⟨rfl, hx⟩
          obtain ⟨z, rfl⟩ : ∃ z : Int, x = V.int z := by
            match i', hx with
            | 0, hx => cases hx; exact ⟨_, rfl⟩
            | 1, hx => cases hx; exact ⟨_, rfl⟩
            | 2, hx => cases hx; exact ⟨_, rfl⟩
          have s6 := st3.trans s5
          exact ⟨_, rfl, _, rfl, _, rfl, _, rfl, _, rfl, _, p, o, z, j, cs, rs, ns, rfl, hT.same s6, s6.seq hO, hl, hz, hf, fun H7 s7 => ⟨_, rfl, iteF ⟨s5.trans s7, _, rfl⟩⟩⟩
        · rintro σ H5 ⟨s5, u6, rfl⟩
          exact ⟨st3.trans s5, _, _, rfl⟩
      · rintro σ H3 ⟨s3, u5, u6, rfl⟩
        exact k _ s3
def spSpoiled (K : PySem.W.Frag) : Sp := fun vs H Q _ => ∃ (o p : Addr) (z : Str) (ns : List Str) (ps : List Int), vs = [.ref o, .str z, .ref p] ∧ H o = some (.lst (sv ns)) ∧ SqL K H p (ps.map V.int) ∧ ps.length = 60 ∧ ns.length ≤ 12 ∧ ∀ r ms H', Same H H' → H' r = some (.lst (sv ms)) → ms.length ≤ 40 → (∀ y ∈ ms, y ∈ ns ∨ y = z) → Q (.ref r) H'
theorem ok_spoiled (T : Txt P K mg A) : FnOk P w K mg base CX0 1 A.a_law_spoiled A.d_law_spoiled ["order", "stranger", "pool"] (spSpoiled K) := by
  refine T.F_law_spoiled.ok sc_law_spoiled (fun vs H Q E h => ?_) (fun cdv A' outer s H vs Q E hr h => ?_)
  · obtain ⟨o, p, z, ns, ps, rfl, _⟩ := h
    rfl
  · obtain ⟨o, p, z, ns, ps, rfl, hO, hS, hps, hn, k⟩ := h
    refine ⟨_, (pss_cons (ps_set (i := 3) sc_law_spoiled.nd rfl (Or.inl rfl) (pe_op op_mod (pe_callTy call_int1 (by rfl) T.n_int (by decide +kernel) (pa_cons (pe_ix ix_list (pv 2) pe_int (fun _ _ => rfl)) pa_nil)) pe_int))
      (pss_cons (ps_set (i := 4) sc_law_spoiled.nd rfl (Or.inr rfl) (pe_op op_cat (pv 0) (pe_lst (pa_cons (pv 1) pa_nil))))
      (pss_cons (ps_set (i := 5) sc_law_spoiled.nd rfl (Or.inl rfl) (pe_ix ix_list (pv 4) (pe_op op_mod (pe_callTy call_int1 (by rfl) T.n_int (by decide +kernel) (pa_cons (pe_ix ix_list (pv 2) pe_int (fun _ _ => rfl)) pa_nil)) (pe_callB call_len_seq (by rfl) T.n_len (by decide +kernel) (pa_cons (pv 4) pa_nil))) (fun _ _ => rfl)))
      (pss_cons (ps_set (i := 6) sc_law_spoiled.nd rfl (Or.inl rfl) (pe_op op_mod (pe_callTy call_int1 (by rfl) T.n_int (by decide +kernel) (pa_cons (pe_ix ix_list (pv 2) pe_int (fun _ _ => rfl)) pa_nil)) (pe_callB call_len_seq (by rfl) T.n_len (by decide +kernel) (pa_cons (pv 4) pa_nil))))
      (pss_cons (ps_if (pt_cmpR op_eq (pv 3) pe_int (nomark _)) (pss_one (ps_ret (pe_op op_cat (pe_slice sl_list (pv 0) po_none (po_some (pv 6))) (pe_slice sl_list (pv 0) (po_some (pe_op op_add (pv 6) pe_int)) po_none)))) pss_nil)
      (pss_cons (ps_if (pt_cmpR op_eq (pv 3) pe_int (nomark _)) (pss_one (ps_ret (pe_op op_cat (pe_op op_cat (pe_slice sl_list (pv 0) po_none (po_some (pv 6))) (pe_lst (pa_cons (pv 5) pa_nil))) (pe_slice sl_list (pv 0) (po_some (pe_op op_add (pv 6) pe_int)) po_none)))) pss_nil)
      (pss_cons (ps_if (pt_cmpR op_eq (pv 3) pe_int (nomark _)) (pss_one (ps_ret (pe_op op_cat (pe_op op_cat (pe_slice sl_list (pv 0) po_none (po_some (pv 6))) (pe_lst (pa_cons (pv 1) pa_nil))) (pe_slice sl_list (pv 0) (po_some (pe_op op_add (pv 6) pe_int)) po_none)))) pss_nil)
      (pss_cons (ps_if (pt_cmpR op_eq (pv 3) pe_int (nomark _)) (pss_one (ps_ret (pe_op op_cat (pe_op op_cat (pe_slice sl_list (pv 0) po_none (po_some (pv 6))) (pe_lst (pa_cons (pv 5) pa_nil))) (pe_slice sl_list (pv 0) (po_some (pv 6)) po_none)))) pss_nil)
      (pss_cons (ps_if (pt_cmpR op_eq (pv 3) pe_int (nomark _)) (pss_one (ps_ret (pe_lst pa_nil))) pss_nil)
      (pss_cons (ps_if (pt_cmpR op_eq (pv 3) pe_int (nomark _)) (pss_one (ps_ret (pe_op op_cat (pe_op op_cat (pe_slice sl_list (pv 0) po_none (po_some (pv 6))) (pe_slice sl_list (pv 0) (po_some (pe_op op_add (pv 6) pe_int)) po_none)) (pe_lst (pa_cons (pv 1) pa_nil))))) pss_nil)
      (pss_one (ps_ret (pe_lc (own := [("i", 7)]) (g := gName 7) (tt := tYes) rfl sc_law_spoiled.nd (pi_range1 (by rfl) T.n_range (pa_cons (pe_op op_mod (pe_callTy call_int1 (by rfl) T.n_int (by decide +kernel) (pa_cons (pe_op op_fdiv (pe_ix ix_list (pv 2) pe_int (fun _ _ => rfl)) pe_int) pa_nil)) pe_int) pa_nil)) (blkOk_by (N := ["order", "stranger", "pool", "way", "known", "more", "k", "i"]) (sc := defScope s_law_spoiled) (by decide +kernel)) (fun _ _ _ _ _ => (pg_name (i := 7) sc_law_spoiled.nd rfl (Or.inl rfl))) (fun _ _ _ _ _ => pts_nil) (fun _ _ _ _ _ => (pe_ix (show IxR _ (rIxL K) from ix_list) (pv 4) (pe_op op_mod (pe_callTy call_int1 (by rfl) T.n_int (by decide +kernel) (pa_cons (pe_ix (show IxR _ (rIxL K) from ix_list) (pv 2) (pe_op op_add pe_int (pv 7)) (fun _ _ => rfl)) pa_nil)) (pe_callB (show CallR _ _ (rLen2 K) from call_len_seq) (by rfl) T.n_len (by decide +kernel) (pa_cons (pv 4) pa_nil))) (fun _ _ => rfl)))))))))))))))), ?_⟩
    obtain ⟨x1, _, e1⟩ := atI_ok (xs := ps) (j := 1) (by decide) (by omega)
    obtain ⟨x2, _, e2⟩ := atI_ok (xs := ps) (j := 2) (by decide) (by omega)
    obtain ⟨x3, _, e3⟩ := atI_ok (xs := ps) (j := 3) (by decide) (by omega)
    refine ⟨_, rfl, _, _, _, _, rfl, rfl, hS, e1, .inl ⟨_, rfl, _, _, rfl, rfl, by show (0 : Int) < 7; decide, ?_⟩⟩
    refine ⟨_, rfl, _, rfl, by show 1 ≤ sizeLine; decide, fun l1 hl1 => ?_⟩
    refine ⟨o, l1, _, _, rfl, rfl, same_new hl1 _ _ hO, upd_same, by rw [len_sv]; exact Nat.le_trans (Nat.add_le_add_right hn 1) (by decide), fun kn hkn => ?_⟩
    have s1 := (same_new (o := .lst [V.str z]) hl1).trans (same_new (o := .lst (sv ns ++ [V.str z])) hkn)
    have hk1 : upd (upd H l1 (.lst [V.str z])) kn (.lst (sv ns ++ [V.str z])) kn = some (.lst (sv (ns ++ [z]))) := by rw [upd_same, sv_snoc']
    generalize upd (upd H l1 _) kn _ = H1 at s1 hk1 ⊢
    have hO1 := s1 _ _ hO
    have hS1 := s1.seq hS
    have lk : (sv (ns ++ [z])).length = ns.length + 1 := by rw [len_sv, List.length_append]; rfl
    have lp : (0 : Int) < ((sv (ns ++ [z])).length : Int) := by omega
    obtain ⟨mo, mmo, em⟩ := at_sv (ss := ns ++ [z]) (j := x2 % (((sv (ns ++ [z])).length : Nat) : Int)) (Int.emod_nonneg _ (by omega)) (by have := Int.emod_lt_of_pos x2 lp; rw [len_sv] at this; rw [len_sv]; exact this)
    have hmo : mo ∈ ns ∨ mo = z := by
      rcases List.mem_append.mp mmo with h | h
      · exact .inl h
      · exact .inr (List.mem_singleton.mp h)
    refine ⟨_, rfl, _, rfl, _, _, _, _, rfl, rfl, hS1, e2, .inl ⟨_, rfl, _, rfl, kn, _, rfl, .inl (SqL.of hk1), _, _, rfl, rfl, lp, kn, _, _, _, rfl, rfl, SqL.of hk1, em, ?_⟩⟩
    refine ⟨_, rfl, _, _, _, _, rfl, rfl, hS1, e3, .inl ⟨_, rfl, _, rfl, kn, _, rfl, .inl (SqL.of hk1), _, _, rfl, rfl, lp, ?_⟩⟩
    dsimp only
    generalize x3 % (((sv (ns ++ [z])).length : Nat) : Int) = kk
    have cl : ∀ lo hi, ∃ ys, cutV (sv ns) lo hi = sv ys ∧ ys.length ≤ 12 ∧ ∀ y ∈ ys, y ∈ ns ∨ y = z := fun lo hi => let ⟨ys, e, s⟩ := cut_sv ns lo hi; ⟨ys, e, Nat.le_trans s.length_le hn, fun y hy => .inl (s.subset hy)⟩
    have big : 40 ≤ sizeLine := by decide
    obtain ⟨ya, ea, la, ma⟩ := cl none (some kk)
    obtain ⟨yb, eb, lb, mb⟩ := cl (some (kk + 1)) none
    obtain ⟨yc, ec, lc, mc⟩ := cl (some kk) none
    have mem2 : ∀ (a b : List Str), (∀ y ∈ a, y ∈ ns ∨ y = z) → (∀ y ∈ b, y ∈ ns ∨ y = z) → ∀ y ∈ a ++ b, y ∈ ns ∨ y = z := fun a b ha hb y hy => (List.mem_append.mp hy).elim (ha y) (hb y)
    have m1 : ∀ m : Str, (m ∈ ns ∨ m = z) → ∀ y ∈ [m], y ∈ ns ∨ y = z := fun m hm y hy => by rw [List.mem_singleton.mp hy]; exact hm
    refine ⟨_, rfl, rfl, _, rfl, ite2 (fun hb => ?_) (fun hb => ?_)⟩
    · refine ⟨_, rfl, _, rfl, _, rfl, o, _, rfl, SqL.of hO1, fun a ha => ?_⟩
      rw [ea]
      have sa1 := s1.trans (same_new (o := .lst (sv ya)) ha)
      refine ⟨_, rfl, _, rfl, _, _, rfl, rfl, _, rfl, o, _, rfl, SqL.of (sa1 _ _ hO), fun b hb => ?_⟩
      rw [eb]
      have nab : a ≠ b := ne_of_none upd_same hb
      refine ⟨a, b, _, _, rfl, rfl, by rw [upd_ne nab]; exact upd_same, upd_same, by rw [len_sv, len_sv]; exact Nat.le_trans (Nat.add_le_add la lb) (by decide), fun d hd => ?_⟩
      exact k d (ya ++ yb) _ (sa1.trans ((same_new hb).trans (same_new hd))) (by rw [upd_same]; exact congrArg (fun z => some (HO.lst z)) (sv_app _ _)) (by rw [List.length_append]; omega) (mem2 _ _ ma mb)
    refine ⟨_, rfl, rfl, _, rfl, ite2 (fun hb => ?_) (fun hb => ?_)⟩
    · refine ⟨_, rfl, _, rfl, _, rfl, o, _, rfl, SqL.of hO1, fun a ha => ?_⟩
      rw [ea]
      refine ⟨_, rfl, by show 1 ≤ sizeLine; decide, fun m hm => ?_⟩
      have nam : a ≠ m := ne_of_none upd_same hm
      refine ⟨a, m, _, _, rfl, rfl, by rw [upd_ne nam]; exact upd_same, upd_same, by rw [len_sv]; exact Nat.le_trans (Nat.add_le_add_right la 1) (by decide), fun e he => ?_⟩
      have s0 := s1.trans ((same_new (o := .lst (sv ya)) ha).trans ((same_new (o := .lst [V.str mo]) hm).trans (same_new (o := .lst (sv ya ++ [V.str mo])) he)))
      refine ⟨_, rfl, _, rfl, _, _, rfl, rfl, _, rfl, o, _, rfl, SqL.of (s0 _ _ hO), fun b hb => ?_⟩
      rw [eb]
      have neb : e ≠ b := ne_of_none upd_same hb
      refine ⟨e, b, _, _, rfl, rfl, by rw [upd_ne neb]; exact upd_same, upd_same, by rw [List.length_append, len_sv, len_sv]; exact Nat.le_trans (Nat.add_le_add (Nat.add_le_add_right la 1) lb) (by decide), fun d hd => ?_⟩
      refine k d (ya ++ [mo] ++ yb) _ (s0.trans ((same_new hb).trans (same_new hd))) (by rw [upd_same]; exact congrArg (fun z => some (HO.lst z)) (by simp [sv])) (by rw [List.length_append, List.length_append]; show ya.length + 1 + _ ≤ 40; omega) (mem2 _ _ (mem2 _ _ ma (m1 _ hmo)) mb)
    refine ⟨_, rfl, rfl, _, rfl, ite2 (fun hb => ?_) (fun hb => ?_)⟩
    · refine ⟨_, rfl, _, rfl, _, rfl, o, _, rfl, SqL.of hO1, fun a ha => ?_⟩
      rw [ea]
      refine ⟨_, rfl, by show 1 ≤ sizeLine; decide, fun m hm => ?_⟩
      have nam : a ≠ m := ne_of_none upd_same hm
      refine ⟨a, m, _, _, rfl, rfl, by rw [upd_ne nam]; exact upd_same, upd_same, by rw [len_sv]; exact Nat.le_trans (Nat.add_le_add_right la 1) (by decide), fun e he => ?_⟩
      have s0 := s1.trans ((same_new (o := .lst (sv ya)) ha).trans ((same_new (o := .lst [V.str z]) hm).trans (same_new (o := .lst (sv ya ++ [V.str z])) he)))
      refine ⟨_, rfl, _, rfl, _, _, rfl, rfl, _, rfl, o, _, rfl, SqL.of (s0 _ _ hO), fun b hb => ?_⟩
      rw [eb]
      have neb : e ≠ b := ne_of_none upd_same hb
      refine ⟨e, b, _, _, rfl, rfl, by rw [upd_ne neb]; exact upd_same, upd_same, by rw [List.length_append, len_sv, len_sv]; exact Nat.le_trans (Nat.add_le_add (Nat.add_le_add_right la 1) lb) (by decide), fun d hd => ?_⟩
      refine k d (ya ++ [z] ++ yb) _ (s0.trans ((same_new hb).trans (same_new hd))) (by rw [upd_same]; exact congrArg (fun z => some (HO.lst z)) (by simp [sv])) (by rw [List.length_append, List.length_append]; show ya.length + 1 + _ ≤ 40; omega) (mem2 _ _ (mem2 _ _ ma (m1 _ (.inr rfl))) mb)
    refine ⟨_, rfl, rfl, _, rfl, ite2 (fun hb => ?_) (fun hb => ?_)⟩
    · refine ⟨_, rfl, _, rfl, _, rfl, o, _, rfl, SqL.of hO1, fun a ha => ?_⟩
      rw [ea]
      refine ⟨_, rfl, by show 1 ≤ sizeLine; decide, fun m hm => ?_⟩
      have nam : a ≠ m := ne_of_none upd_same hm
      refine ⟨a, m, _, _, rfl, rfl, by rw [upd_ne nam]; exact upd_same, upd_same, by rw [len_sv]; exact Nat.le_trans (Nat.add_le_add_right la 1) (by decide), fun e he => ?_⟩
      have s0 := s1.trans ((same_new (o := .lst (sv ya)) ha).trans ((same_new (o := .lst [V.str mo]) hm).trans (same_new (o := .lst (sv ya ++ [V.str mo])) he)))
      refine ⟨_, rfl, _, rfl, _, rfl, o, _, rfl, SqL.of (s0 _ _ hO), fun b hb => ?_⟩
      rw [ec]
      have neb : e ≠ b := ne_of_none upd_same hb
      refine ⟨e, b, _, _, rfl, rfl, by rw [upd_ne neb]; exact upd_same, upd_same, by rw [List.length_append, len_sv, len_sv]; exact Nat.le_trans (Nat.add_le_add (Nat.add_le_add_right la 1) lc) (by decide), fun d hd => ?_⟩
      refine k d (ya ++ [mo] ++ yc) _ (s0.trans ((same_new hb).trans (same_new hd))) (by rw [upd_same]; exact congrArg (fun z => some (HO.lst z)) (by simp [sv])) (by rw [List.length_append, List.length_append]; show ya.length + 1 + _ ≤ 40; omega) (mem2 _ _ (mem2 _ _ ma (m1 _ hmo)) mc)
    refine ⟨_, rfl, rfl, _, rfl, ite2 (fun hb => ?_) (fun hb => ?_)⟩
    · exact ⟨by show 0 ≤ sizeLine; decide, fun d hd => k d [] _ (s1.trans (same_new hd)) upd_same (Nat.zero_le _) (fun y hy => nomatch hy)⟩
    refine ⟨_, rfl, rfl, _, rfl, ite2 (fun hb => ?_) (fun hb => ?_)⟩
    · refine ⟨_, rfl, _, rfl, _, rfl, o, _, rfl, SqL.of hO1, fun a ha => ?_⟩
      rw [ea]
      have sa1 := s1.trans (same_new (o := .lst (sv ya)) ha)
      refine ⟨_, rfl, _, rfl, _, _, rfl, rfl, _, rfl, o, _, rfl, SqL.of (sa1 _ _ hO), fun b hb => ?_⟩
      rw [eb]
      have nab : a ≠ b := ne_of_none upd_same hb
      refine ⟨a, b, _, _, rfl, rfl, by rw [upd_ne nab]; exact upd_same, upd_same, by rw [len_sv, len_sv]; exact Nat.le_trans (Nat.add_le_add la lb) (by decide), fun e he => ?_⟩
      have s0 := sa1.trans ((same_new (o := .lst (sv yb)) hb).trans (same_new (o := .lst (sv ya ++ sv yb)) he))
      refine ⟨_, rfl, by show 1 ≤ sizeLine; decide, fun m hm => ?_⟩
      have nem : e ≠ m := ne_of_none upd_same hm
      refine ⟨e, m, _, _, rfl, rfl, by rw [upd_ne nem]; exact upd_same, upd_same, by rw [List.length_append, len_sv, len_sv]; exact Nat.le_trans (Nat.add_le_add_right (Nat.add_le_add la lb) 1) (by decide), fun d hd => ?_⟩
      exact k d (ya ++ yb ++ [z]) _ (s0.trans ((same_new hm).trans (same_new hd))) (by rw [upd_same]; exact congrArg (fun z => some (HO.lst z)) (by simp [sv])) (by rw [List.length_append, List.length_append]; show _ + _ + 1 ≤ 40; omega) (mem2 _ _ (mem2 _ _ ma mb) (m1 _ (.inr rfl)))
    have f0 := Int.emod_nonneg (x3 / 13) (show (15 : Int) ≠ 0 by decide)
    have f1 := Int.emod_lt_of_pos (x3 / 13) (show (0 : Int) < 15 by decide)
    refine ⟨_, rfl, _, _, _, _, rfl, rfl, hS1, e3, _, _, rfl, rfl, ⟨by decide, by decide⟩, .inl ⟨_, rfl, _, _, rfl, rfl, by show (0 : Int) < 15; decide, _, rfl, by omega, by omega, fun D hD => lc_range (n := (x3 / 13 % 15).toNat) (fun i H8 => Same H1 H8 ∧ ∃ ms : List Str, H8 D = some (.lst (sv ms)) ∧ ms.length = i ∧ ∀ y ∈ ms, y ∈ ns ∨ y = z) ⟨same_new hD, [], upd_same, rfl, fun y hy => nomatch hy⟩ ?_ ?_⟩⟩
    · rintro j H8 hj ⟨s8, ms, hd8, hlen8, hm8⟩
      obtain ⟨xj, _, ej⟩ := atI_ok (xs := ps) (j := 4 + (0 + (j : Int))) (by omega) (by omega)
      obtain ⟨mj, mmj, emj⟩ := at_sv (ss := ns ++ [z]) (j := xj % (((sv (ns ++ [z])).length : Nat) : Int)) (Int.emod_nonneg _ (by omega)) (by have := Int.emod_lt_of_pos xj lp; rw [len_sv] at this; rw [len_sv]; exact this)
      have hmj : mj ∈ ns ∨ mj = z := by
        rcases List.mem_append.mp mmj with h | h
        · exact .inl h
        · exact .inr (List.mem_singleton.mp h)
      refine ⟨rfl, _, rfl, _, rfl, _, rfl, _, _, rfl, rfl, _, _, _, _, rfl, rfl, s8.seq hS1, ej, .inl ⟨_, rfl, _, rfl, kn, _, rfl, .inl (SqL.of (s8 _ _ hk1)), _, _, rfl, rfl, lp, kn, _, _, _, rfl, rfl, SqL.of (s8 _ _ hk1), emj, ?_⟩⟩
      refine ⟨_, hd8, small_int (by rw [len_sv]; omega), fun b o' e => ?_, ms ++ [mj], ?_, by rw [List.length_append, hlen8]; rfl, mem2 _ _ hm8 (m1 _ hmj)⟩
      · rw [upd_ne (ne_of_none e hD)]; exact s8 _ _ e
      · rw [sv_snoc']; exact upd_same
    · rintro H8 ⟨s8, ms, hd8, hlen8, hm8⟩
      exact k D ms H8 (s1.trans s8) hd8 (by omega) hm8
end
end My
set_option maxRecDepth 100000
set_option maxHeartbeats 4000000
set_option exponentiation.threshold 10000
namespace My
open PySem L2 PySem.W
open C8 (pss_cut)
theorem Lss.updNe {f : List V → HO} {H : Hp} {ts : List Addr} {rs : List (List Str)} {l : Addr} {o : HO} (h : Lss f H ts rs) (hne : ∀ (i : Nat) (t : Addr), ts[i]? = some t → t ≠ l) : Lss f (upd H l o) ts rs :=
  ⟨h.len, fun i t x a b => by rw [upd_ne (hne i t a)]; exact h.at_ i t x a b⟩
theorem ne_app {ts : List Addr} {a l : Addr} (h : ∀ (i : Nat) (t : Addr), ts[i]? = some t → t ≠ l) (ha : a ≠ l) : ∀ (i : Nat) (t : Addr), (ts ++ [a])[i]? = some t → t ≠ l := fun i t e => by
  rcases List.mem_append.mp (List.mem_of_getElem? e) with hm | hm
  · obtain ⟨j, hj, rfl⟩ := List.getElem_of_mem hm
    exact h j _ (List.getElem?_eq_getElem hj)
  · rw [List.mem_singleton.mp hm]; exact ha
theorem noT {r : Addr} : ∀ (i : Nat) (t : Addr), ([] : List Addr)[i]? = some t → t ≠ r := fun i t h => by simp at h
/-- a comprehension's list of new lists -/
def LcL (H1 : Hp) (D : Addr) (lls : List (List Str)) (H : Hp) : Prop := Same H1 H ∧ ∃ us : List Addr, H D = some (.lst (us.map V.ref)) ∧ Lss .lst H us lls ∧ ∀ (i : Nat) (t : Addr), us[i]? = some t → t ≠ D
theorem lcl0 {H1 : Hp} {D : Addr} (hD : H1 D = none) : LcL H1 D [] (upd H1 D (.lst [])) := ⟨same_new hD, [], upd_same, Lss.nil, noT⟩
theorem LcL.push {H1 H H' : Hp} {D a : Addr} {lls : List (List Str)} {y : List Str} (q : LcL H1 D lls H) (hD : H1 D = none) (s : Same H H') (ha : H' a = some (.lst (sv y))) (hne : a ≠ D) (hl : lls.length ≤ 1000001) :
    ∃ acc, H' D = some (.lst acc) ∧ acc.length < sizeLine ∧ LcL H1 D (lls ++ [y]) (upd H' D (.lst (acc ++ [.ref a]))) := by
  obtain ⟨sm, us, hd, hls, hn⟩ := q
  refine ⟨us.map V.ref, s _ _ hd, Nat.lt_of_le_of_lt (by rw [List.length_map, hls.len]; exact hl) (by decide), fun b o e => ?_, us ++ [a], ?_, ?_, ne_app hn hne⟩
  · rw [upd_ne (ne_of_none e hD)]; exact s _ _ (sm _ _ e)
  · rw [List.map_append]; exact upd_same
  · exact ((hls.same s).app ha).updNe (ne_app hn hne)
theorem LcL.new {H1 H : Hp} {D a : Addr} {lls : List (List Str)} {y : List Str} (q : LcL H1 D lls H) (hD : H1 D = none) (ha : H a = none) (hl : lls.length ≤ 1000001) :
    ∃ acc, (upd H a (.lst (sv y))) D = some (.lst acc) ∧ acc.length < sizeLine ∧ LcL H1 D (lls ++ [y]) (upd (upd H a (.lst (sv y))) D (.lst (acc ++ [.ref a]))) :=
  q.push hD (same_new ha) upd_same (by obtain ⟨_, us, hd, _⟩ := q; exact (ne_of_none hd ha).symm) hl

theorem okz_low {z : Str} (h : ∀ c ∈ z.cps.toList, c ≤ 122) : Okz z := by
  show PyData.canLay0 (.str z) = true
  unfold PyData.canLay0 PyData.strOk
  rw [Array.all_eq_true]
  intro i hi
  have := h z.cps[i] (by rw [Array.mem_toList_iff]; exact Array.getElem_mem hi)
  exact decide_eq_true (by omega)
theorem okz_sp {z : Str} (g : Good z) : Okz (z ++ " ") := okz_low fun c hc => by
  rw [append_cps, Array.toList_append] at hc
  rcases List.mem_append.mp hc with hc | hc
  · exact (g.let_ c hc).2
  · rw [show (" " : Str).cps.toList = [32] by decide] at hc; rw [List.mem_singleton.mp hc]; decide
theorem okz_A {z : Str} (g : Good z) : Okz ("A" ++ z) := okz_low fun c hc => by
  rw [append_cps, Array.toList_append] at hc
  rcases List.mem_append.mp hc with hc | hc
  · rw [show ("A" : Str).cps.toList = [65] by decide] at hc; rw [List.mem_singleton.mp hc]; decide
  · exact (g.let_ c hc).2
/-- a list of tuples of names -/
abbrev pdd (rs : List (List Str)) : List PyData := rs.map fun r => PyData.tuple (pd r)
theorem lay_pdd {rs : List (List Str)} (h : ∀ r ∈ rs, ∀ z ∈ r, Okz z) : PyData.canLayAll0 (pdd rs) = true := by
  induction rs with
  | nil => rfl
  | cons a t ih =>
    show (PyData.canLay0 (.tuple (pd a)) && PyData.canLayAll0 (pdd t)) = true
    rw [ih fun z hz => h z (List.mem_cons_of_mem _ hz), show PyData.canLay0 (.tuple (pd a)) = true by simp only [PyData.canLay0]; exact lay_all (h a List.mem_cons_self)]; rfl
theorem depth_pdd : ∀ rs : List (List Str), PyData.depthAll (pdd rs) ≤ 3
  | [] => by simp [PyData.depthAll]
  | r :: t => by
    have h1 : PyData.depthAll (t.map fun r => PyData.tuple (pd r)) ≤ 3 := depth_pdd t
    have h2 := depth_pd r
    simp only [List.map_cons, PyData.depthAll, PyData.depth]
    omega
theorem shaped_pdd {rs : List (List Str)} (h : ∀ r ∈ rs, ∀ z ∈ r, Okz z) : SeqAt.shaped (.list (pdd rs)) = true := by
  have h1 := depth_pdd rs
  show (PyData.canLay0 (.list (pdd rs)) && decide (PyData.depth (.list (pdd rs)) ≤ 64)) = true
  rw [Bool.and_eq_true]
  exact ⟨by simp only [PyData.canLay0]; exact lay_pdd h, decide_eq_true (by simp only [PyData.depth]; omega)⟩
theorem eqv_pdd {rs : List (List Str)} (h : ∀ r ∈ rs, ∀ z ∈ r, Okz z) : PyData.eqv (.list (pdd rs)) (.list (pdd rs)) = true := SeqAt.eqv_refl _ (by simp only [PyData.canLay0]; exact lay_pdd h)
theorem dp_pdd {K : PySem.W.Frag} {H : Hp} : ∀ {ts : List Addr} {rs : List (List Str)}, Lss .tup H ts rs → DpAll K H (ts.map V.ref) (pdd rs)
  | [], [], _ => .nil
  | [], _ :: _, h => nomatch h.len
  | _ :: _, [], h => nomatch h.len
  | t :: ts, r :: rs, h => .cons (.tup (xs := sv r) (SqT.of (h.at_ 0 t r rfl rfl)) (dp_pd r)) (dp_pdd ⟨Nat.succ.inj h.len, fun i u x a b => h.at_ (i + 1) u x a b⟩)
theorem RowsOk.st {cs : List Str} {rs : List (List Str)} (h : RowsOk cs rs) (hc : cs.length ≤ 12) : ∀ x ∈ rs, stray cs x = none ∧ x.length ≤ 1000 := fun x hx => by
  obtain ⟨a, b⟩ := h x hx
  have := nodup_le a b
  exact ⟨stray_none_iff.mpr ⟨b, a⟩, by omega⟩
theorem noR {cs : List Str} : RowsOk cs [] := fun x hx => nomatch hx
theorem RowsOk.app {cs : List Str} {rs : List (List Str)} {y : List Str} (h : RowsOk cs rs) (nd : y.Nodup) (hs : ∀ z ∈ y, z ∈ cs) : RowsOk cs (rs ++ [y]) := fun x hx => by
  rcases List.mem_append.mp hx with hx | hx
  · exact h x hx
  · rw [List.mem_singleton.mp hx]; exact ⟨nd, hs⟩
def nums13 : List Int := [3, 4, 5, 2, 8, 6, 9, 10, 1, 7, 0, 12, 11]
theorem nums13_le : ∀ v ∈ nums13, 0 ≤ v ∧ v ≤ 12 := by decide
def nums8 : List Int := [2, 3, 4, 5, 1, 0, 6, 12]
theorem nums8_le : ∀ v ∈ nums8, 0 ≤ v ∧ v ≤ 12 := by decide
theorem perm_fault {cs ms : List Str} (p : ms.Perm cs) (nd : cs.Nodup) : fault cs ms = none := fault_none (fun x hx => p.mem_iff.mp hx) (p.nodup_iff.mpr nd) (by rw [p.length_eq]; exact Nat.le_refl _)
abbrev nsc_law : Scope := { kind := ScopeKind.function, names := [(".0", NameKind.local), ("row", NameKind.cell), ("tuple", NameKind.globalImplicit), ("columns", NameKind.cell)], isGenerator := false, isCoroutine := false }
/-- law's: a list of at most 63 ints is handed in, True comes out -/
def spLaw (K : PySem.W.Frag) : Sp := fun vs H Q _ => ∃ (a : Addr) (ns : List Int), vs = [.ref a] ∧ SqL K H a (ns.map V.int) ∧ ns.length ≤ 63 ∧ ∀ H', Q (.bl true) H'
section
variable {P : Program} {w : World} {K : PySem.W.Frag} {mg : Str → Option Value} {base : Heap} {A : Ad}
theorem ok_law (T : Txt P K mg A) : FnOk P w K mg base CX0 15 A.a_law A.d_law ["script"] (spLaw K) := by
  have G_law_pool := ok_pool (P := P) (w := w) (base := base) T
  have G_law_word := ok_word (P := P) (w := w) (base := base) T
  have G_law_new := ok_new (P := P) (w := w) (base := base) T
  have G_law_sequence := ok_seq (P := P) (w := w) (base := base) T
  have G_law_row := ok_row (P := P) (w := w) (base := base) T
  have G_law_spoiled := ok_spoiled (P := P) (w := w) (base := base) T
  have G_Table_init := ok_table (P := P) (w := w) (base := base) T
  have G_law_list_is := ok_listIs (P := P) (w := w) (base := base) T
  have G_Table_iter := ok_iter (P := P) (w := w) (base := base) T
  have G_Table_len := ok_len (P := P) (w := w) (base := base) T
  refine T.F_law.ok sc_law (fun vs H Q E h => ?_) (fun cdv A' outer s H vs Q E hr h => ?_)
  · obtain ⟨a, ns, rfl, _⟩ := h
    rfl
  · obtain ⟨sa, ns, rfl, hS, hlen, k⟩ := h
    refine ⟨_, (pss_cons (ps_set (i := 1) sc_law.nd rfl (Or.inl rfl) (pe_call G_law_pool (hr.mono (by decide)) rfl T.mg_law_pool T.F_law_pool.kp T.b_law_pool .nil pass0 (pa_cons (pv 0) (pa_cons pe_int (pa_cons pe_int pa_nil)))))
      (pss_cons (ps_set (i := 2) sc_law.nd rfl (Or.inr rfl) (pe_call G_law_pool (hr.mono (by decide)) rfl T.mg_law_pool T.F_law_pool.kp T.b_law_pool .nil pass0 (pa_cons (pv 0) (pa_cons pe_int (pa_cons pe_int pa_nil)))))
      (pss_cons (ps_set (i := 3) sc_law.nd rfl (Or.inl rfl) (pe_call G_law_pool (hr.mono (by decide)) rfl T.mg_law_pool T.F_law_pool.kp T.b_law_pool .nil pass0 (pa_cons (pv 0) (pa_cons pe_int (pa_cons pe_int pa_nil)))))
      (pss_cons (ps_set (i := 4) sc_law.nd rfl (Or.inr rfl) (pe_lst pa_nil))
      (pss_cons (ps_for PassesOwn.never rfl (pi_range1 (by rfl) T.n_range (pa_cons (pe_ix ix_list (pe_lst (pa_cons pe_int (pa_cons pe_int (pa_cons pe_int (pa_cons pe_int (pa_cons pe_int (pa_cons pe_int (pa_cons pe_int (pa_cons pe_int (pa_cons pe_int (pa_cons pe_int (pa_cons pe_int (pa_cons pe_int (pa_cons pe_int pa_nil)))))))))))))) (pe_op op_mod (pe_callTy call_int1 (by rfl) T.n_int (by decide +kernel) (pa_cons (pe_ix ix_list (pv 1) pe_int (fun _ _ => rfl)) pa_nil)) pe_int) (fun _ _ => rfl)) pa_nil)) (pg_name (i := 5) sc_law.nd rfl (Or.inl rfl))
        (pss_one (ps_expr (pe_bm PySem.F.plainAttrs_list PySem.F.slot_list_append PySem.F.type_list_append mt_append (pv 4) (pa_cons (pe_call G_law_new (hr.mono (by decide)) rfl T.mg_law_new T.F_law_new.kp T.b_law_new .nil pass0 (pa_cons (pv 4) (pa_cons (pe_call G_law_word (hr.mono (by decide)) rfl T.mg_law_word T.F_law_word.kp T.b_law_word .nil pass0 (pa_cons (pv 1) (pa_cons (pe_op op_add pe_int (pe_op op_mul pe_int (pv 5))) pa_nil))) pa_nil))) pa_nil)))))
      (pss_cons (ps_set (i := 6) sc_law.nd rfl (Or.inr rfl) (pe_call G_law_sequence (hr.mono (by decide)) rfl T.mg_law_sequence T.F_law_sequence.kp T.b_law_sequence .nil pass0 (pa_cons (pv 4) (pa_cons (pe_op op_add (pe_op op_mul (pe_ix ix_list (pv 1) pe_int (fun _ _ => rfl)) pe_int) (pe_ix ix_list (pv 1) pe_int (fun _ _ => rfl))) pa_nil))))
      (pss_cons (ps_setLc (i := 7) (own := [("i", 13)]) (g := gName 13) (tt := tYes) rfl sc_law.nd rfl rfl (sw_true rfl rfl rfl (by decide +kernel)) (pi_range1 (by rfl) T.n_range (pa_cons (pe_ix ix_list (pe_lst (pa_cons pe_int (pa_cons pe_int (pa_cons pe_int (pa_cons pe_int (pa_cons pe_int (pa_cons pe_int (pa_cons pe_int (pa_cons pe_int pa_nil))))))))) (pe_op op_mod (pe_callTy call_int1 (by rfl) T.n_int (by decide +kernel) (pa_cons (pe_ix ix_list (pv 1) pe_int (fun _ _ => rfl)) pa_nil)) pe_int) (fun _ _ => rfl)) pa_nil)) (blkOk_by (N := ["script", "pool", "lows", "other", "columns", "k", "hidden", "rows", "base", "order", "stranger", "wrong", "table", "i", "row", "name"]) (sc := defScope s_law) (by decide +kernel)) (fun _ _ _ _ _ => (pg_name (i := 13) sc_law.nd rfl (Or.inl rfl))) (fun _ _ _ _ _ => pts_nil) (fun _ _ _ _ _ => (pe_call G_law_row (hr.mono (by decide)) rfl T.mg_law_row T.F_law_row.kp T.b_law_row .nil pass0 (pa_cons (pv 4) (pa_cons (pv 6) (pa_cons (pv 2) (pa_cons (pe_op op_mul pe_int (pv 13)) pa_nil)))))))
      (pss_cut (ps_if (pt_cmpR op_eq (pe_op op_mod (pe_callTy call_int1 (by rfl) T.n_int (by decide +kernel) (pa_cons (pe_ix ix_list (pv 1) pe_int (fun _ _ => rfl)) pa_nil)) pe_int) pe_int (nomark _)) (pss_cons (ps_set (i := 8) sc_law.nd rfl (Or.inr rfl) (pe_op op_cat (pv 7) (pe_lst (pa_cons (pe_slice sl_list (pv 4) po_none (po_some pe_int)) pa_nil))))
      (pss_one (ps_setLc (i := 7) (own := [("k", 5)]) (g := gName 5) (tt := tYes) rfl sc_law.nd rfl rfl (sw_true rfl rfl rfl (by decide +kernel)) (pi_range1 (by rfl) T.n_range (pa_cons pe_int pa_nil)) (blkOk_by (N := ["script", "pool", "lows", "other", "columns", "k", "hidden", "rows", "base", "order", "stranger", "wrong", "table", "i", "row", "name"]) (sc := defScope s_law) (by decide +kernel)) (fun _ _ _ _ _ => (pg_name (i := 5) sc_law.nd rfl (Or.inl rfl))) (fun _ _ _ _ _ => pts_nil) (fun _ _ _ _ _ => (pe_callTy (show CallR _ _ (rListOf K) from call_list_of) (by rfl) T.n_list (by decide +kernel) (pa_cons (pe_ix (show IxR _ (rIxL K) from ix_list) (pv 8) (pe_op op_mod (pe_callTy call_int1 (by rfl) T.n_int (by decide +kernel) (pa_cons (pv 5) pa_nil)) (pe_callB (show CallR _ _ (rLen2 K) from call_len_seq) (by rfl) T.n_len (by decide +kernel) (pa_cons (pv 8) pa_nil))) (fun _ _ => rfl)) pa_nil)))))) pss_nil)
      (pss_cons (ps_set (i := 9) sc_law.nd rfl (Or.inl rfl) (pe_ix ix_list (pe_lst (pa_cons (pv 6) (pa_cons (pe_revL (pv 6)) (pa_cons (pe_call G_law_sequence (hr.mono (by decide)) rfl T.mg_law_sequence T.F_law_sequence.kp T.b_law_sequence .nil pass0 (pa_cons (pv 4) (pa_cons (pe_op op_add (pe_op op_mul (pe_ix ix_list (pv 1) pe_int (fun _ _ => rfl)) pe_int) (pe_ix ix_list (pv 1) pe_int (fun _ _ => rfl))) pa_nil))) pa_nil)))) (pe_op op_mod (pe_callTy call_int1 (by rfl) T.n_int (by decide +kernel) (pa_cons (pe_ix ix_list (pv 3) pe_int (fun _ _ => rfl)) pa_nil)) pe_int) (fun _ _ => rfl)))
      (pss_cons (ps_set (i := 10) sc_law.nd rfl (Or.inl rfl) (pe_call G_law_new (hr.mono (by decide)) rfl T.mg_law_new T.F_law_new.kp T.b_law_new .nil pass0 (pa_cons (pv 4) (pa_cons (pe_call G_law_word (hr.mono (by decide)) rfl T.mg_law_word T.F_law_word.kp T.b_law_word .nil pass0 (pa_cons (pv 1) (pa_cons pe_int pa_nil))) pa_nil))))
      (pss_cons (ps_set (i := 10) sc_law.nd rfl (Or.inl rfl) (pe_ix ix_list (pe_lst (pa_cons (pv 10) (pa_cons pe_str (pa_cons (pe_op op_add_str (pv 10) pe_str) (pa_cons (pe_op op_add_str pe_str (pv 10)) pa_nil))))) (pe_op op_mod (pe_callTy call_int1 (by rfl) T.n_int (by decide +kernel) (pa_cons (pe_ix ix_list (pv 1) pe_int (fun _ _ => rfl)) pa_nil)) pe_int) (fun _ _ => rfl)))
      (pss_cons (ps_set (i := 11) sc_law.nd rfl (Or.inl rfl) (pe_call G_law_spoiled (hr.mono (by decide)) rfl T.mg_law_spoiled T.F_law_spoiled.kp T.b_law_spoiled .nil pass0 (pa_cons (pv 9) (pa_cons (pv 10) (pa_cons (pv 3) pa_nil)))))
      (pss_cons (ps_set (i := 12) sc_law.nd rfl (Or.inl rfl) (pe_make T.mk_Table G_Table_init (hr.mono (by decide)) rfl T.mg_Table T.bi .nil pass0 (pa_cons (pe_callTy call_list_of (by rfl) T.n_list (by decide +kernel) (pa_cons (pv 4) pa_nil)) (pa_cons (pe_lc (own := [("row", 14)]) (g := gName 14) (tt := tYes) rfl sc_law.nd (pi_list (pv 7)) (blkOk_by (N := ["script", "pool", "lows", "other", "columns", "k", "hidden", "rows", "base", "order", "stranger", "wrong", "table", "i", "row", "name"]) (sc := defScope s_law) (by decide +kernel)) (fun _ _ _ _ _ => (pg_name (i := 14) sc_law.nd rfl (Or.inl rfl))) (fun _ _ _ _ _ => pts_nil) (fun _ _ _ _ _ => (pe_callTy (show CallR _ _ (rListOf K) from call_list_of) (by rfl) T.n_list (by decide +kernel) (pa_cons (pv 14) pa_nil)))) pa_nil))))
      (pss_cons (ps_if (PW.pt (pw_or (pt_not (pt_val (pe_call G_law_list_is (hr.mono (by decide)) rfl T.mg_law_list_is T.F_law_list_is.kp T.b_law_list_is .nil pass0 (pa_cons (pv 12) (pa_cons (pv 4) (pa_cons (pv 7) (pa_cons (pv 9) pa_nil))))))) (pw_or1 (pt_not (pt_val (pe_call G_law_list_is (hr.mono (by decide)) rfl T.mg_law_list_is T.F_law_list_is.kp T.b_law_list_is .nil pass0 (pa_cons (pv 12) (pa_cons (pv 4) (pa_cons (pv 7) (pa_cons (pv 11) pa_nil)))))))))) (pss_one (ps_ret pe_bl)) pss_nil)
      (pss_cons (ps_if (PW.pt (pw_or (pt_not (pt_val (pe_call G_law_list_is (hr.mono (by decide)) rfl T.mg_law_list_is T.F_law_list_is.kp T.b_law_list_is .nil pass0 (pa_cons (pv 12) (pa_cons (pv 4) (pa_cons (pv 7) (pa_cons (pv 6) pa_nil))))))) (pw_or1 (pt_not (pt_val (pe_call G_law_list_is (hr.mono (by decide)) rfl T.mg_law_list_is T.F_law_list_is.kp T.b_law_list_is .nil pass0 (pa_cons (pv 12) (pa_cons (pv 4) (pa_cons (pv 7) (pa_cons (pe_slice sl_list (pv 9) (po_some pe_int) po_none) pa_nil)))))))))) (pss_one (ps_ret pe_bl)) pss_nil)
      (pss_one (ps_ret (pe_cmpR (op_eqD hr.units) (pe_callTy (call_listIt (EL := E0) ⟨T.m_Table_iter.at_, T.m_Table_iter.fn, T.m_Table_len.at_, T.m_Table_len.fn⟩ G_Table_iter T.b_Table_iter pass0 G_Table_len T.b_Table_len (hr.mono (by decide))) (by rfl) T.n_list (by decide +kernel) (pa_cons (pv 12) pa_nil)) (pe_lc (own := [("row", 14)]) (g := gName 14) (tt := tYes) rfl sc_law.nd (pi_list (pv 7)) (blkOk_by (N := ["script", "pool", "lows", "other", "columns", "k", "hidden", "rows", "base", "order", "stranger", "wrong", "table", "i", "row", "name"]) (sc := defScope s_law) (by decide +kernel)) (fun _ _ _ _ _ => (pg_name (i := 14) sc_law.nd rfl (Or.inr rfl))) (fun _ _ _ _ _ => pts_nil) (fun _ _ _ _ _ => (pe_callTy (show CallR _ _ (rTupOf K) from call_tuple_of) (by rfl) T.n_tuple (by decide +kernel) (pa_cons (pe_lc (own := [("name", 15)]) (g := gName 15) (tt := _) rfl sc_law.nd (show PI _ _ _ (iList K _) from (pi_list (pv 4))) (blkOk_by (N := ["script", "pool", "lows", "other", "columns", "k", "hidden", "rows", "base", "order", "stranger", "wrong", "table", "i", "row", "name"]) (sc := nsc_law) (by decide +kernel)) (fun _ _ _ _ _ => (pg_name (i := 15) sc_law.nd rfl (Or.inl rfl))) (fun _ _ _ _ _ => (pts_one (pt_cmpR (show OpR _ _ (rIn K false) from op_in_seq) (pv 15) (pv 14) (by with_unfolding_all rfl)))) (fun _ _ _ _ _ => (pv 15))) pa_nil)))) (nomark _))))))))))))))))))), ?_⟩
    refine ⟨_, rfl, sa, ns, 0, 60, rfl, hS, by decide, by decide, by decide, fun p ps H1 s1 h1 l1 P1 => ?_⟩
    refine ⟨_, rfl, sa, ns, 1, 60, rfl, s1.seq hS, by decide, by decide, by decide, fun q qs H2 s2 h2 l2 P2 => ?_⟩
    refine ⟨_, rfl, sa, ns, 2, 60, rfl, (s1.trans s2).seq hS, by decide, by decide, by decide, fun r os H3 s3 h3 l3 P3 => ?_⟩
    have h60 : ps.length = 60 := by omega
    have q60 : qs.length = 60 := by omega
    have o60 : os.length = 60 := by omega
    have hP3 := (s2.trans s3).seq (K := K) (SqL.of h1)
    have hQ3 := s3.seq (K := K) (SqL.of h2)
    have hR3 : SqL K H3 r (os.map V.int) := SqL.of h3
    clear s1 s2 s3 h1 h2 h3 hS
    obtain ⟨x0, _, e0⟩ := atI_ok (xs := ps) (j := 0) (by decide) (by omega)
    obtain ⟨x37, _, e37⟩ := atI_ok (xs := ps) (j := 37) (by decide) (by omega)
    obtain ⟨x38, _, e38⟩ := atI_ok (xs := ps) (j := 38) (by decide) (by omega)
    obtain ⟨x39, _, e39⟩ := atI_ok (xs := ps) (j := 39) (by decide) (by omega)
    obtain ⟨x40, _, e40⟩ := atI_ok (xs := ps) (j := 40) (by decide) (by omega)
    obtain ⟨x41, _, e41⟩ := atI_ok (xs := ps) (j := 41) (by decide) (by omega)
    obtain ⟨x42, _, e42⟩ := atI_ok (xs := ps) (j := 42) (by decide) (by omega)
    obtain ⟨x46, _, e46⟩ := atI_ok (xs := ps) (j := 46) (by decide) (by omega)
    obtain ⟨y0, _, f0⟩ := atI_ok (xs := os) (j := 0) (by decide) (by omega)
    refine ⟨by show 0 ≤ sizeLine; decide, fun c hc => ?_⟩
    have s1 := same_new (o := .lst []) hc
    refine ⟨by show 13 ≤ sizeLine; decide, fun l hl13 => ?_⟩
    have s2 := s1.trans (same_new (o := .lst (nums13.map V.int)) hl13)
    have m0 := Int.emod_nonneg x0 (show (13 : Int) ≠ 0 by decide)
    have m1 := Int.emod_lt_of_pos x0 (show (0 : Int) < 13 by decide)
    obtain ⟨v, hv, ev⟩ := atI_ok (xs := nums13) m0 (by show x0 % 13 < 13; omega)
    have hv := nums13_le v hv
    have ncl : c ≠ l := ne_of_none upd_same hl13
    refine ⟨_, rfl, _, _, _, _, rfl, rfl, s2.seq hP3, e0, .inl ⟨_, rfl, _, _, rfl, rfl, by show (0 : Int) < 13; decide, _, _, _, _, rfl, rfl, SqL.of upd_same, ev, ?_⟩⟩
    refine ⟨v, rfl, by omega, by omega, for_range (n := v.toNat) (fun j σ H4 => ∃ (cs : List Str) (u5 : Option V), σ = [some (.ref sa), some (.ref p), some (.ref q), some (.ref r), some (.ref c), u5, none, none, none, none, none, none, none, none, none, none] ∧ Same H3 H4 ∧ H4 c = some (.lst (sv cs)) ∧ (∀ z ∈ cs, Good z) ∧ cs.Nodup ∧ cs.length = j)
      ⟨[], none, rfl, s2, by rw [upd_ne ncl]; exact upd_same, (fun z hz => nomatch hz), List.nodup_nil, rfl⟩ ?_ ?_⟩
    · rintro j σ H4 hj ⟨cs, u5, rfl, s4, h4, hg, nd, hlen⟩
      refine ⟨_, rfl, .inl ⟨rfl, _, SqL.of h4⟩, _, rfl, _, rfl, _, rfl, _, _, rfl, rfl, .inl ⟨by decide, by decide⟩, _, _, rfl, rfl, p, ps, _, rfl, s4.seq hP3, P1, by omega, by omega, fun z gz => ?_⟩
      refine ⟨c, cs, z, rfl, SqL.of h4, by omega, gz, fun z' g' n' => ⟨c, _, _, rfl, rfl, h4, small_int (by rw [len_sv]; omega), cs ++ [z'], _, rfl, ?_, ?_, ?_, ?_, ?_⟩⟩
      · intro b o e
        rw [upd_ne (ne_of_none e hc)]
        exact s4 _ _ e
      · rw [sv_snoc']; exact upd_same
      · intro y hy
        rcases List.mem_append.mp hy with hy | hy
        · exact hg y hy
        · rw [List.mem_singleton.mp hy]; exact g'
      · rw [List.nodup_append]
        exact ⟨nd, by simp, fun a ha b hb e => n' (by rw [← List.mem_singleton.mp hb, ← e]; exact ha)⟩
      · rw [List.length_append, hlen]; rfl
    rintro σ H4 ⟨cs, u5, rfl, s4, h4, hg, nd, hlen⟩
    have cl : cs.length ≤ 12 := by omega
    have hP4 := s4.seq hP3
    have hQ4 := s4.seq hQ3
    have hR4 := s4.seq hR3
    clear s4 hP3 hQ3 hR3 s1 s2 hc hl13 ncl
    -- the hidden order
    refine ⟨_, rfl, _, rfl, _, _, _, _, rfl, rfl, hP4, e37, _, _, rfl, rfl, .inr ⟨by decide, by decide⟩, _, rfl, _, _, _, _, rfl, rfl, hP4, e38, _, _, rfl, rfl, ?_⟩
    refine ⟨c, cs, _, rfl, SqL.of h4, by omega, fun hd hs H5 s5 hd0 h5 hperm => ?_⟩
    have hc5 := s5 _ _ h4
    have hP5 := s5.seq hP4
    have hQ5 := s5.seq hQ4
    have hR5 := s5.seq hR4
    clear s5 hP4 hQ4 hR4 h4
    have hnd := hperm.nodup_iff.mpr nd
    have hsub : ∀ y ∈ hs, y ∈ cs := fun y hy => hperm.mem_iff.mp hy
    have hhl : hs.length ≤ 12 := by rw [hperm.length_eq]; exact cl
    -- the rows
    refine ⟨by show 8 ≤ sizeLine; decide, fun l8 hl8 => ?_⟩
    have s6 := same_new (o := .lst (nums8.map V.int)) hl8
    have n0 := Int.emod_nonneg x39 (show (8 : Int) ≠ 0 by decide)
    have n1 := Int.emod_lt_of_pos x39 (show (0 : Int) < 8 by decide)
    obtain ⟨v8, hv8, ev8⟩ := atI_ok (xs := nums8) n0 (by show x39 % 8 < 8; omega)
    have hv8 := nums8_le v8 hv8
    refine ⟨_, rfl, _, _, _, _, rfl, rfl, s6.seq hP5, e39, .inl ⟨_, rfl, _, _, rfl, rfl, by show (0 : Int) < 8; decide, _, _, _, _, rfl, rfl, SqL.of upd_same, ev8, v8, rfl, by omega, by omega, fun D hD => lc_range (n := v8.toNat) (fun i H8 => ∃ rs, LcL (upd H5 l8 (.lst (nums8.map V.int))) D rs H8 ∧ RowsOk cs rs ∧ rs.length = i) ⟨[], lcl0 hD, noR, rfl⟩ ?_ ?_⟩⟩
    · rintro j H8 hj ⟨rs, q8, ok8, len8⟩
      have s8 := s6.trans q8.1
      refine ⟨rfl, _, rfl, _, rfl, _, rfl, _, rfl, _, _, rfl, rfl, .inl ⟨by decide, by decide⟩, c, hd, q, cs, hs, qs, _, rfl, SqL.of (s8 _ _ hc5), SqL.of (s8 _ _ h5), s8.seq hQ5, by omega, by omega, nd, cl, hnd, hsub, hhl, fun r ms H9 s9 hr0 hr9 nd9 sub9 => ?_⟩
      obtain ⟨acc, z1, z2, z3⟩ := q8.push hD s9 hr9 (by obtain ⟨_, us, hd', _⟩ := q8; exact (ne_of_none hd' hr0).symm) (by omega)
      exact ⟨acc, z1, z2, rs ++ [ms], z3, ok8.app nd9 sub9, by rw [List.length_append, len8]; rfl⟩
    rintro H6 ⟨rs, ⟨s56, ts, hd6, hts6, hne6⟩, ok6, len6⟩
    have len6 : rs.length ≤ 12 := by omega
    have s56 := s6.trans s56
    have hc6 := s56 _ _ hc5
    have h6 := s56 _ _ h5
    have hP6 := s56.seq hP5
    have hR6 := s56.seq hR5
    clear s6 s56 hc5 h5 hP5 hQ5 hR5 hD hl8
    refine ⟨fun σ H7 => ∃ (t : Addr) (ts : List Addr) (rs : List (List Str)) (u5 u8 : Option V), σ = [some (.ref sa), some (.ref p), some (.ref q), some (.ref r), some (.ref c), u5, some (.ref hd), some (.ref t), u8, none, none, none, none, none, none, none] ∧ Same H6 H7 ∧ H7 t = some (.lst (ts.map V.ref)) ∧ Lss .lst H7 ts rs ∧ RowsOk cs rs ∧ rs.length ≤ 48, ?_, ?_⟩
    · refine ⟨_, rfl, _, _, _, _, rfl, rfl, hP6, e40, .inl ⟨_, rfl, _, _, rfl, rfl, by show (0 : Int) < 16; decide, rfl, _, rfl, ite2 (fun hb => ?_) (fun hb => ?_)⟩⟩
      · obtain ⟨ys, eys, hys⟩ := cut_sv cs none (some 2)
        refine ⟨_, rfl, _, rfl, _, rfl, c, _, rfl, SqL.of hc6, fun t ht => ?_⟩
        rw [eys]
        have st := same_new (o := .lst (sv ys)) ht
        refine ⟨by show 1 ≤ sizeLine; decide, fun l1 hl1 => ?_⟩
        have st1 := st.trans (same_new (o := .lst [V.ref t]) hl1)
        refine ⟨D, l1, _, _, rfl, rfl, st1 _ _ hd6, upd_same, ?_, fun b hb' => ?_⟩
        · rw [List.length_map, hts6.len]
          exact Nat.le_trans (Nat.add_le_add_right len6 1) (by decide)
        have st2 := st1.trans (same_new (o := .lst (ts.map V.ref ++ [V.ref t])) hb')
        have hts2 := (hts6.same st2).app (t := t) (r := ys) ((same_new (o := .lst (ts.map V.ref ++ [V.ref t])) hb') _ _ (same_new (o := .lst [V.ref t]) hl1 _ _ upd_same))
        have hok2 : RowsOk cs (rs ++ [ys]) := ok6.app (hys.nodup nd) fun y hy => hys.subset hy
        generalize hX : upd (upd (upd H6 t _) l1 _) b _ = H7 at st2 hts2
        have hB : H7 b = some (.lst ((ts ++ [t]).map V.ref)) := by rw [← hX, List.map_append]; exact upd_same
        clear hX st st1 hl1 hb' ht
        refine ⟨48, rfl, by decide, by decide, fun D2 hD2 => lc_range (n := 48) (fun i H10 => ∃ ss, LcL H7 D2 ss H10 ∧ RowsOk cs ss ∧ ss.length = i) ⟨[], lcl0 hD2, noR, rfl⟩ ?_ ?_⟩
        · rintro j H10 hj ⟨ss, q10, ok10, len10⟩
          have hB8 : SqL K H10 b ((ts ++ [t]).map V.ref) := SqL.of (q10.1 _ _ hB)
          have hbl : ((ts ++ [t]).map V.ref).length = rs.length + 1 := by rw [List.length_map, List.length_append, hts6.len]; rfl
          have hp0 : (0 : Int) < (((ts ++ [t]).map V.ref).length : Int) := by omega
          have i0 := Int.emod_nonneg (0 + (j : Int)) (show ((((ts ++ [t]).map V.ref).length : Nat) : Int) ≠ 0 by omega)
          have i1 := Int.emod_lt_of_pos (0 + (j : Int)) hp0
          obtain ⟨n, en⟩ := Int.eq_ofNat_of_zero_le i0
          have hn : n < (ts ++ [t]).length := by rw [List.length_map] at i1 en; omega
          have hat : atI ((ts ++ [t]).map V.ref) ((0 + (j : Int)) % ((((ts ++ [t]).map V.ref).length : Nat) : Int)) = some (V.ref (ts ++ [t])[n]) := by
            rw [en]; exact atI_nat (by rw [List.getElem?_map, List.getElem?_eq_getElem hn]; rfl)
          obtain ⟨y, hy, ho8⟩ := (hts2.same q10.1).get (List.getElem?_eq_getElem hn)
          refine ⟨rfl, _, rfl, _, rfl, .inl ⟨_, rfl, _, rfl, b, _, rfl, .inl hB8, _, _, rfl, rfl, hp0, b, _, _, _, rfl, rfl, hB8, hat, _, _, rfl, .inl (SqL.of ho8), fun a ha => ?_⟩⟩
          obtain ⟨acc, z1, z2, z3⟩ := q10.new (y := y) hD2 ha (by omega)
          have oy := hok2 y (List.mem_of_getElem? hy)
          exact ⟨acc, z1, z2, ss ++ [y], z3, ok10.app oy.1 oy.2, by rw [List.length_append, len10]; rfl⟩
        · rintro H10 ⟨ss, ⟨s10, us, hd10, hls10, hne10⟩, ok10, len10⟩
          exact ⟨D2, us, ss, _, _, rfl, st2.trans s10, hd10, hls10, ok10, by omega⟩
      · exact ⟨D, ts, rs, _, _, rfl, Same.refl _, hd6, hts6, ok6, by omega⟩
    rintro σ H7 ⟨t, ts', rs', u5', u8, rfl, s7, h7, hts7, ok7, len7⟩
    have hc7 := s7 _ _ hc6
    have hh7 := s7 _ _ h6
    have hP7 := s7.seq hP6
    have hR7 := s7.seq hR6
    clear s7 hts6 hd6 hne6 hc6 h6 hP6 hR6
    -- the order
    refine ⟨_, rfl, _, rfl, hd, _, rfl, SqL.of hh7, fun l2 hl2 => ?_⟩
    have s1 := same_new (o := .lst (sv hs).reverse) hl2
    have hl2' : upd H7 l2 (.lst (sv hs).reverse) l2 = some (.lst (sv hs.reverse)) := by rw [upd_same]; exact congrArg (fun z => some (HO.lst z)) List.map_reverse.symm
    refine ⟨_, rfl, _, rfl, _, _, _, _, rfl, rfl, s1.seq hP7, e41, _, _, rfl, rfl, .inr ⟨by decide, by decide⟩, _, rfl, _, _, _, _, rfl, rfl, s1.seq hP7, e42, _, _, rfl, rfl, ?_⟩
    refine ⟨c, cs, _, rfl, SqL.of (s1 _ _ hc7), by omega, fun o3 ms3 H8 s8 _ h8 hperm3 => ⟨by show 3 ≤ sizeLine; decide, fun l3 hl3 => ?_⟩⟩
    have sl3 := same_new (o := .lst [V.ref hd, V.ref l2, V.ref o3]) hl3
    have s78 := s1.trans (s8.trans sl3)
    obtain ⟨oo, ms, eoo, hoo, hpo⟩ : ∃ oo ms, atI [V.ref hd, V.ref l2, V.ref o3] (y0 % 3) = some (V.ref oo) ∧ upd H8 l3 (.lst [V.ref hd, V.ref l2, V.ref o3]) oo = some (.lst (sv ms)) ∧ ms.Perm cs := by
      have i0 := Int.emod_nonneg y0 (show (3 : Int) ≠ 0 by decide)
      have i1 := Int.emod_lt_of_pos y0 (show (0 : Int) < 3 by decide)
      rcases (show y0 % 3 = 0 ∨ y0 % 3 = 1 ∨ y0 % 3 = 2 by omega) with e | e | e
      · exact ⟨hd, hs, by rw [e]; rfl, s78 _ _ hh7, hperm⟩
      · exact ⟨l2, hs.reverse, by rw [e]; rfl, sl3 _ _ (s8 _ _ hl2'), (List.reverse_perm hs).trans hperm⟩
      · exact ⟨o3, ms3, by rw [e]; rfl, sl3 _ _ h8, hperm3⟩
    refine ⟨_, rfl, _, _, _, _, rfl, rfl, s78.seq hR7, f0, .inl ⟨_, rfl, _, _, rfl, rfl, by show (0 : Int) < 3; decide, l3, _, _, _, rfl, rfl, SqL.of upd_same, eoo, ?_⟩⟩
    generalize upd H8 l3 _ = H9 at s78 hoo ⊢
    have hms : ms.length ≤ 12 := by rw [hpo.length_eq]; exact cl
    have hC9 := s78 _ _ hc7
    have hP9 := s78.seq hP7
    have hR9 := s78.seq hR7
    have hh9 := s78 _ _ hh7
    have h9 := s78 _ _ h7
    have hts9 := hts7.same s78
    clear s1 s8 sl3 s78 hl2 hl2' hl3 h8 hperm3 eoo hc7 hP7 hR7 hh7 h7 hts7
    -- the stranger
    refine ⟨_, rfl, _, rfl, p, ps, _, rfl, hP9, P1, by decide, by omega, fun z gz => ?_⟩
    refine ⟨c, cs, z, rfl, SqL.of hC9, by omega, gz, fun z' g' n' => ?_⟩
    have zl := g'.le
    refine ⟨_, rfl, _, rfl, _, _, rfl, rfl, by rw [show (" " : Str).length = 1 by decide]; exact Nat.le_trans (Nat.add_le_add_right zl 1) (by decide), _, rfl, _, _, rfl, rfl, by rw [show ("A" : Str).length = 1 by decide]; exact Nat.le_trans (Nat.add_le_add_left zl 1) (by decide), by show 4 ≤ sizeLine; decide, fun l4 hl4 => ?_⟩
    obtain ⟨sg, esg, hsg⟩ : ∃ sg, atI [V.str z', V.str "", V.str (z' ++ " "), V.str ("A" ++ z')] (x46 % 4) = some (V.str sg) ∧ Okz sg := by
      have i0 := Int.emod_nonneg x46 (show (4 : Int) ≠ 0 by decide)
      have i1 := Int.emod_lt_of_pos x46 (show (0 : Int) < 4 by decide)
      rcases (show x46 % 4 = 0 ∨ x46 % 4 = 1 ∨ x46 % 4 = 2 ∨ x46 % 4 = 3 by omega) with e | e | e | e
      · exact ⟨z', by rw [e]; rfl, okz_good g'⟩
      · exact ⟨"", by rw [e]; rfl, okz_low fun c hc => by rw [show ("" : Str).cps.toList = [] by decide] at hc; cases hc⟩
      · exact ⟨z' ++ " ", by rw [e]; rfl, okz_sp g'⟩
      · exact ⟨"A" ++ z', by rw [e]; rfl, okz_A g'⟩
    have s1 := same_new (o := .lst [V.str z', V.str "", V.str (z' ++ " "), V.str ("A" ++ z')]) hl4
    refine ⟨_, rfl, _, _, _, _, rfl, rfl, s1.seq hP9, e46, .inl ⟨_, rfl, _, _, rfl, rfl, by show (0 : Int) < 4; decide, l4, _, _, _, rfl, rfl, SqL.of upd_same, esg, ?_⟩⟩
    generalize upd H9 l4 _ = H10 at s1 ⊢
    refine ⟨_, rfl, _, rfl, _, rfl, oo, r, sg, ms, os, rfl, s1 _ _ hoo, s1.seq hR9, o60, hms, fun wr ws H11 s11 hw hwl hwm => ?_⟩
    have s11 := s1.trans s11
    have hoo := s11 _ _ hoo
    have hC := s11 _ _ hC9
    have hh := s11 _ _ hh9
    have h11 := s11 _ _ h9
    have hts := hts9.same s11
    clear s1 s11 hC9 hP9 hR9 hh9 h9 hts9 hl4 esg
    -- the table
    refine ⟨_, rfl, c, _, rfl, .inl (SqL.of hC), fun l hl => ?_⟩
    have sl := same_new (o := .lst (sv cs)) hl
    refine ⟨_, rfl, t, rfl, ⟨_, sl.seq (SqL.of h11)⟩, fun D hD => lc_it walk_list (fun i H8 => LcL (upd H11 l (.lst (sv cs))) D (rs'.take i) H8) (lcl0 hD) (fun i H8 _ q => (sl.trans q.1).seq (SqL.of h11)) ?_ ?_⟩
    · rintro i x H80 H8 hi q8 ⟨rfl, hx⟩
      obtain ⟨b, hb, rfl⟩ := refs_get hx
      obtain ⟨y, hy, ho8⟩ := ((hts.same sl).same q8.1).get hb
      refine ⟨rfl, _, rfl, b, _, rfl, .inl (SqL.of ho8), fun a ha => ?_⟩
      rw [take_succ hy]
      exact q8.new hD ha (by rw [List.length_take]; omega)
    rintro H8 ⟨s8, us, hd8, hl8, hne⟩
    rw [List.length_map, hts.len, List.take_length] at hl8
    have hl80 := s8 _ _ (upd_same (H := H11) (a := l) (o := .lst (sv cs)))
    refine fun tt0 dx nx ndx nex => ?_
    have st : Same H8 (upd (upd H8 dx (HO.own tt0)) tt0 (HO.ins A.C_Table dx [])) := (same_new ndx).trans (same_new (by rw [upd_ne nex.symm]; exact nx))
    refine ⟨tt0, l, D, dx, cs, us, rs', rfl, upd_same, st.seq (SqL.of hl80), st.seq (SqL.of hd8), hl8.same st, hg, nd, cl, len7, ok7.st cl, fun H9 sm9 tb => ⟨rfl, ?_⟩⟩
    have s79 : Same H11 H9 := fun b o' e => by
      have e8 := s8 _ _ (sl _ _ e)
      exact sm9 b o' (ne_of_none e8 nx) (st _ _ e8)
    have hC := s79 _ _ hC
    have hR := s79 _ _ h11
    have hts := hts.same s79
    have hoo := s79 _ _ hoo
    have hh := s79 _ _ hh
    have hw := s79 _ _ hw
    clear s79 sm9 st nex ndx nx hl8 hne hd8 hl80 s8 hD sl hl h11
    have zms : ∀ y ∈ ms, Okz y := fun y hy => okz_good (hg y (hpo.mem_iff.mp hy))
    have zhs : ∀ y ∈ hs, Okz y := fun y hy => okz_good (hg y (hsub y hy))
    have zws : ∀ y ∈ ws, Okz y := fun y hy => (hwm y hy).elim (zms y) fun e => by rw [e]; exact hsg
    refine ⟨_, rfl, _, rfl, _, rfl, _, rfl, tt0, c, t, oo, cs, ms, ts', rs', rfl, tb, SqL.of hC, SqL.of hR, hts, SqL.of hoo, by omega, by omega, nd, cl, ok7, zms, fun H12 s12 => ⟨_, rfl, iteF ?_⟩⟩
    refine ⟨_, rfl, _, rfl, _, rfl, _, rfl, tt0, c, t, wr, cs, ws, ts', rs', rfl, tb.same s12, SqL.of (s12 _ _ hC), SqL.of (s12 _ _ hR), hts.same s12, SqL.of (s12 _ _ hw), by omega, by omega, nd, cl, ok7, zws, fun H13 s13 => ⟨_, rfl, iteF ?_⟩⟩
    have s13 := s12.trans s13
    refine ⟨_, rfl, _, rfl, _, rfl, _, rfl, tt0, c, t, hd, cs, hs, ts', rs', rfl, tb.same s13, SqL.of (s13 _ _ hC), SqL.of (s13 _ _ hR), hts.same s13, SqL.of (s13 _ _ hh), by omega, by omega, nd, cl, ok7, zhs, fun H14 s14 => ⟨_, rfl, iteF ?_⟩⟩
    have s14 := s13.trans s14
    obtain ⟨yt, eyt, hyt⟩ := cut_sv ms (some 1) none
    refine ⟨_, rfl, _, rfl, _, rfl, _, rfl, _, rfl, oo, _, rfl, SqL.of (s14 _ _ hoo), fun lo hlo => ?_⟩
    rw [eyt]
    have s15 := s14.trans (same_new (o := .lst (sv yt)) hlo)
    refine ⟨tt0, c, t, lo, cs, yt, ts', rs', rfl, tb.same s15, SqL.of (s15 _ _ hC), SqL.of (s15 _ _ hR), hts.same s15, SqL.of upd_same, by have := hyt.length_le; omega, by omega, nd, cl, ok7, fun y hy => zms y (hyt.subset hy), fun H19 s19 => ⟨_, rfl, iteF ?_⟩⟩
    have s19 := s15.trans s19
    have tb := tb.same s19
    have hC : SqL K H19 c (sv cs) := SqL.of (s19 _ _ hC)
    have hR := s19 _ _ hR
    have hts := hts.same s19
    clear s12 s13 s14 s15 s19 hoo hh hw hlo
    obtain ⟨dt, ct, rt, us2, hp, hc, hr3, hls⟩ := id tb
    refine ⟨_, rfl, tt0, dt, _, rfl, hp, fun q9 hq9 hne9 => ?_⟩
    have sq := same_new (o := .lst []) hq9
    refine ⟨tt0, dt, ct, rt, rfl, sq _ _ hp, ⟨_, sq _ _ hr3⟩, fun it hit => ?_⟩
    have sit := same_new (o := TitO rt it 0) hit
    have lu : (us2.map V.ref).length ≤ 48 := by rw [List.length_map, hls.len, List.length_map]; exact len7
    refine ⟨it, rt, us2.map V.ref, rfl, upd_same, sit _ _ (sq _ _ hr3), sit _ _ upd_same, sit _ _ (sq _ _ hp), small_int (by omega), ⟨tt0, cs, rs', rfl, tb.same (sq.trans sit), ⟨rfl, _, rfl, by omega, by omega⟩⟩, fun H20 h20 hq20 => ?_⟩
    have s20 : Same H19 H20 := fun b o' e => by
      have e1 := sq _ _ e
      rw [h20 b (ne_of_none e1 hit) (ne_of_none e hq9)]
      exact sit _ _ e1
    have hls20 := hls.same s20
    have hC := s20.seq hC
    have hR := s20 _ _ hR
    have hts := hts.same s20
    have hgood : ∀ r ∈ rs'.map (canon cs), ∀ z ∈ r, Okz z := fun r hr z hz => by
      obtain ⟨x, _, rfl⟩ := List.mem_map.mp hr
      exact okz_good (hg z (List.mem_filter.mp hz).1)
    clear h20 sit hit sq hq9 hls tb hp hc hr3
    refine ⟨_, rfl, t, rfl, ⟨_, SqL.of hR⟩, fun D hD => lc_it walk_list (fun i H8 => Same H20 H8 ∧ ∃ us : List Addr, H8 D = some (.lst (us.map V.ref)) ∧ Lss .tup H8 us ((rs'.take i).map (canon cs))) ⟨same_new hD, [], upd_same, Lss.nil⟩ (fun i H8 _ q => q.1.seq (SqL.of hR)) ?_ ?_⟩
    · rintro i x H80 H8 hi ⟨s8, us, hd8, hl8⟩ ⟨rfl, hx⟩
      obtain ⟨b, hb, rfl⟩ := refs_get hx
      obtain ⟨y, hy, ho8⟩ := (hts.same s8).get hb
      have hil := (List.getElem?_eq_some_iff.mp hy).1
      have hC8 := s8.seq hC
      have stepT : ∀ i z, cs[i]? = some z → z ∈ y → sv (canon (cs.take (i + 1)) y) = sv (canon (cs.take i) y) ++ [V.str z] := fun i z hz hm => by
        rw [take_succ hz, canon_T hm]; exact List.map_append
      have stepF : ∀ i z, cs[i]? = some z → z ∉ y → sv (canon (cs.take (i + 1)) y) = sv (canon (cs.take i) y) := fun i z hz hm => by
        rw [take_succ hz, canon_F hm]
      refine ⟨rfl, _, rfl, c, rfl, ⟨_, hC8⟩, fun D2 hD2 => lc_it walk_list (PvS H8 D2 fun i => sv (canon (cs.take i) y)) (pv0 hD2 rfl) (fun i H2 _ q => q.1.seq hC8) ?_ ?_⟩
      · rintro j x H30 H3 hj q ⟨rfl, hx⟩
        obtain ⟨z, hz, rfl⟩ := sv_get hx
        refine ⟨rfl, _, rfl, _, rfl, b, _, rfl, .inl (SqL.of (q.1 _ _ ho8)), rfl, flat_sv _, _, rfl, ?_⟩
        rw [if_neg Bool.false_ne_true, inV_str]
        have hlen : (sv (canon (cs.take j) y)).length ≤ 1000000 := by
          have := List.length_filter_le (fun x => decide (x ∈ y)) (cs.take j)
          rw [List.length_take] at this
          rw [len_sv]; unfold canon; omega
        by_cases hm : z ∈ y
        · exact ifT (decide_eq_true hm) ⟨_, rfl, q.push hD2 (stepT j z hz hm) hlen⟩
        · exact ifF (decide_eq_false hm) (q.skip (stepF j z hz hm))
      rintro H3 ⟨sm, h3⟩
      have h3 : H3 D2 = some (.lst (sv (canon (cs.take (sv cs).length) y))) := h3
      rw [len_sv, List.take_length] at h3
      refine ⟨D2, _, rfl, .inl ⟨SqL.of h3, fun tt htt => ?_⟩⟩
      have sm2 := sm.trans (same_new (o := .tup (sv (canon cs y))) htt)
      have hd6 := sm2 _ _ hd8
      refine ⟨_, hd6, small_int (by rw [List.length_map, hl8.len, List.length_map, List.length_take]; omega), ?_, us ++ [tt], ?_, ?_⟩
      · intro c' o' e
        rw [upd_ne (ne_of_none e hD)]
        exact sm2 _ _ (s8 _ _ e)
      · rw [List.map_append]; exact upd_same
      · rw [take_succ hy, List.map_append]
        exact ((hl8.same sm2).app upd_same).updT hd6 (fun xs z => nomatch z)
    rintro H8 ⟨s8, us, hd8, hl8⟩
    rw [List.length_map, hts.len, List.take_length] at hl8
    have hq8 := s8 _ _ hq20
    refine ⟨.list (pdd (rs'.map (canon cs))), .list (pdd (rs'.map (canon cs))), .lst (SqL.of hq8) (dp_pdd (hls20.same s8)), .lst (SqL.of hd8) (dp_pdd hl8), shaped_pdd hgood, shaped_pdd hgood, ?_⟩
    rw [eqv_pdd hgood]
    exact k _
end
end My
set_option maxRecDepth 100000
set_option maxHeartbeats 4000000
set_option exponentiation.threshold 10000
namespace My
open PySem L2
theorem all_mk {l : PySem.W.OpenLaw} {w : World} {K : PySem.W.Frag} {h : Heap} {mg : Str → Option Value} {fa C_Table C_RowsError C_Unknown C_Impossible C_BadOrder C_UnknownRow a_BadOrder_init a_UnknownRow_init a_is_name a_first_bad_name a_first_stray a_order_fault a_count_runs a_runs_of a_check_order a_run_count a_broken a_is_layout a_extent a_gap_rows a_common_rows a_check_columns a_check_rows a_Table_in_order a_Table_init a_Table_getitem a_Table_len a_Table_iter a_law_cell a_law_pool a_law_word a_law_new a_law_sequence a_law_row a_law_spoiled a_law_misfit a_law_is_count a_law_called a_law_refused a_law_no_row a_law_runs a_law_row_is a_law_numbers_are a_law_gaps_are a_law_order_is a_law_list_is a_law e_Table_init : Addr} (X : K.In h) (G : h.Ns mainGlobals mg) (hfa : mg "law" = some (.ref fa))
    {cd_BadOrder : ClassData}
    {oc_BadOrder_init kV_BadOrder_init dc_BadOrder_init pm_BadOrder_init ct_BadOrder_init oa_BadOrder_init ob_BadOrder_init : Value} {od_BadOrder_init an_BadOrder_init da_BadOrder_init db_BadOrder_init : Option Addr} {sl_BadOrder_init la_BadOrder_init lb_BadOrder_init : Array (Option Value)} {cda_BadOrder_init cc_BadOrder_init : Addr} {vs_BadOrder_init : Array Value} {fl_BadOrder_init : Str} {tf_BadOrder_init : Tok}
    {cd_UnknownRow : ClassData}
    {oc_UnknownRow_init kV_UnknownRow_init dc_UnknownRow_init pm_UnknownRow_init ct_UnknownRow_init oa_UnknownRow_init ob_UnknownRow_init : Value} {od_UnknownRow_init an_UnknownRow_init da_UnknownRow_init db_UnknownRow_init : Option Addr} {sl_UnknownRow_init la_UnknownRow_init lb_UnknownRow_init : Array (Option Value)} {cda_UnknownRow_init cc_UnknownRow_init : Addr} {vs_UnknownRow_init : Array Value} {fl_UnknownRow_init : Str} {tf_UnknownRow_init : Tok}
    {tk_LONGEST_NAME : Tok}
    {tk_Table_MOST_COLUMNS : Tok}
    {tk_Table_MOST_ROWS : Tok}
    {oc_is_name kV_is_name dc_is_name pm_is_name cd_is_name ct_is_name : Value} {od_is_name an_is_name : Option Addr} {sl_is_name : Array (Option Value)}
    {oc_first_bad_name kV_first_bad_name dc_first_bad_name pm_first_bad_name cd_first_bad_name ct_first_bad_name : Value} {od_first_bad_name an_first_bad_name : Option Addr} {sl_first_bad_name : Array (Option Value)}
    {oc_first_stray kV_first_stray dc_first_stray pm_first_stray cd_first_stray ct_first_stray : Value} {od_first_stray an_first_stray : Option Addr} {sl_first_stray : Array (Option Value)}
    {oc_order_fault kV_order_fault dc_order_fault pm_order_fault cd_order_fault ct_order_fault : Value} {od_order_fault an_order_fault : Option Addr} {sl_order_fault : Array (Option Value)}
    {oc_count_runs kV_count_runs dc_count_runs pm_count_runs cd_count_runs ct_count_runs : Value} {od_count_runs an_count_runs : Option Addr} {sl_count_runs : Array (Option Value)}
    {oc_runs_of kV_runs_of dc_runs_of pm_runs_of cd_runs_of ct_runs_of : Value} {od_runs_of an_runs_of : Option Addr} {sl_runs_of : Array (Option Value)}
    {oc_check_order kV_check_order dc_check_order pm_check_order cd_check_order ct_check_order : Value} {od_check_order an_check_order : Option Addr} {sl_check_order : Array (Option Value)}
    {oc_run_count kV_run_count dc_run_count pm_run_count cd_run_count ct_run_count : Value} {od_run_count an_run_count : Option Addr} {sl_run_count : Array (Option Value)}
    {oc_broken kV_broken dc_broken pm_broken cd_broken ct_broken : Value} {od_broken an_broken : Option Addr} {sl_broken : Array (Option Value)}
    {oc_is_layout kV_is_layout dc_is_layout pm_is_layout cd_is_layout ct_is_layout : Value} {od_is_layout an_is_layout : Option Addr} {sl_is_layout : Array (Option Value)}
    {oc_extent kV_extent dc_extent pm_extent cd_extent ct_extent : Value} {od_extent an_extent : Option Addr} {sl_extent : Array (Option Value)}
    {oc_gap_rows kV_gap_rows dc_gap_rows pm_gap_rows cd_gap_rows ct_gap_rows : Value} {od_gap_rows an_gap_rows : Option Addr} {sl_gap_rows : Array (Option Value)}
    {oc_common_rows kV_common_rows dc_common_rows pm_common_rows cd_common_rows ct_common_rows : Value} {od_common_rows an_common_rows : Option Addr} {sl_common_rows : Array (Option Value)}
    {oc_check_columns kV_check_columns dc_check_columns pm_check_columns cd_check_columns ct_check_columns : Value} {od_check_columns an_check_columns : Option Addr} {sl_check_columns : Array (Option Value)}
    {oc_check_rows kV_check_rows dc_check_rows pm_check_rows cd_check_rows ct_check_rows : Value} {od_check_rows an_check_rows : Option Addr} {sl_check_rows : Array (Option Value)}
    {oc_Table_in_order kV_Table_in_order dc_Table_in_order pm_Table_in_order cd_Table_in_order ct_Table_in_order : Value} {od_Table_in_order an_Table_in_order : Option Addr} {sl_Table_in_order : Array (Option Value)}
    {oc_Table_init kV_Table_init dc_Table_init pm_Table_init cd_Table_init ct_Table_init : Value} {od_Table_init an_Table_init : Option Addr} {sl_Table_init : Array (Option Value)}
    {TD_Table_init : Addr} {to_Table_init : Option Addr} {tn_Table_init : Nat} {ts_Table_init : Array (Option Value)}
    {oc_Table_getitem kV_Table_getitem dc_Table_getitem pm_Table_getitem cd_Table_getitem ct_Table_getitem : Value} {od_Table_getitem an_Table_getitem : Option Addr} {sl_Table_getitem : Array (Option Value)}
    {oc_Table_len kV_Table_len dc_Table_len pm_Table_len cd_Table_len ct_Table_len : Value} {od_Table_len an_Table_len : Option Addr} {sl_Table_len : Array (Option Value)}
    {oc_Table_iter kV_Table_iter dc_Table_iter pm_Table_iter cd_Table_iter ct_Table_iter : Value} {od_Table_iter an_Table_iter : Option Addr} {sl_Table_iter : Array (Option Value)}
    {oc_law_cell kV_law_cell dc_law_cell pm_law_cell cd_law_cell ct_law_cell : Value} {od_law_cell an_law_cell : Option Addr} {sl_law_cell : Array (Option Value)}
    {oc_law_pool kV_law_pool dc_law_pool pm_law_pool cd_law_pool ct_law_pool : Value} {od_law_pool an_law_pool : Option Addr} {sl_law_pool : Array (Option Value)}
    {oc_law_word kV_law_word dc_law_word pm_law_word cd_law_word ct_law_word : Value} {od_law_word an_law_word : Option Addr} {sl_law_word : Array (Option Value)}
    {oc_law_new kV_law_new dc_law_new pm_law_new cd_law_new ct_law_new : Value} {od_law_new an_law_new : Option Addr} {sl_law_new : Array (Option Value)}
    {oc_law_sequence kV_law_sequence dc_law_sequence pm_law_sequence cd_law_sequence ct_law_sequence : Value} {od_law_sequence an_law_sequence : Option Addr} {sl_law_sequence : Array (Option Value)}
    {oc_law_row kV_law_row dc_law_row pm_law_row cd_law_row ct_law_row : Value} {od_law_row an_law_row : Option Addr} {sl_law_row : Array (Option Value)}
    {oc_law_spoiled kV_law_spoiled dc_law_spoiled pm_law_spoiled cd_law_spoiled ct_law_spoiled : Value} {od_law_spoiled an_law_spoiled : Option Addr} {sl_law_spoiled : Array (Option Value)}
    {oc_law_misfit kV_law_misfit dc_law_misfit pm_law_misfit cd_law_misfit ct_law_misfit : Value} {od_law_misfit an_law_misfit : Option Addr} {sl_law_misfit : Array (Option Value)}
    {oc_law_is_count kV_law_is_count dc_law_is_count pm_law_is_count cd_law_is_count ct_law_is_count : Value} {od_law_is_count an_law_is_count : Option Addr} {sl_law_is_count : Array (Option Value)}
    {oc_law_called kV_law_called dc_law_called pm_law_called cd_law_called ct_law_called : Value} {od_law_called an_law_called : Option Addr} {sl_law_called : Array (Option Value)}
    {oc_law_refused kV_law_refused dc_law_refused pm_law_refused cd_law_refused ct_law_refused : Value} {od_law_refused an_law_refused : Option Addr} {sl_law_refused : Array (Option Value)}
    {oc_law_no_row kV_law_no_row dc_law_no_row pm_law_no_row cd_law_no_row ct_law_no_row : Value} {od_law_no_row an_law_no_row : Option Addr} {sl_law_no_row : Array (Option Value)}
    {oc_law_runs kV_law_runs dc_law_runs pm_law_runs cd_law_runs ct_law_runs : Value} {od_law_runs an_law_runs : Option Addr} {sl_law_runs : Array (Option Value)}
    {oc_law_row_is kV_law_row_is dc_law_row_is pm_law_row_is cd_law_row_is ct_law_row_is : Value} {od_law_row_is an_law_row_is : Option Addr} {sl_law_row_is : Array (Option Value)}
    {oc_law_numbers_are kV_law_numbers_are dc_law_numbers_are pm_law_numbers_are cd_law_numbers_are ct_law_numbers_are : Value} {od_law_numbers_are an_law_numbers_are : Option Addr} {sl_law_numbers_are : Array (Option Value)}
    {oc_law_gaps_are kV_law_gaps_are dc_law_gaps_are pm_law_gaps_are cd_law_gaps_are ct_law_gaps_are : Value} {od_law_gaps_are an_law_gaps_are : Option Addr} {sl_law_gaps_are : Array (Option Value)}
    {oc_law_order_is kV_law_order_is dc_law_order_is pm_law_order_is cd_law_order_is ct_law_order_is : Value} {od_law_order_is an_law_order_is : Option Addr} {sl_law_order_is : Array (Option Value)}
    {oc_law_list_is kV_law_list_is dc_law_list_is pm_law_list_is cd_law_list_is ct_law_list_is : Value} {od_law_list_is an_law_list_is : Option Addr} {sl_law_list_is : Array (Option Value)}
    {oc_law kV_law dc_law pm_law cd_law ct_law : Value} {od_law an_law : Option Addr} {sl_law : Array (Option Value)}
    (xmg_Table : PySem.W.nsIn K mainGlobals "Table" = some (some (.ref C_Table)))
    (xmg_RowsError : PySem.W.nsIn K mainGlobals "RowsError" = some (some (.ref C_RowsError)))
    (xmg_Unknown : PySem.W.nsIn K mainGlobals "Unknown" = some (some (.ref C_Unknown)))
    (xmg_Impossible : PySem.W.nsIn K mainGlobals "Impossible" = some (some (.ref C_Impossible)))
    (xmg_BadOrder : PySem.W.nsIn K mainGlobals "BadOrder" = some (some (.ref C_BadOrder)))
    (xmg_UnknownRow : PySem.W.nsIn K mainGlobals "UnknownRow" = some (some (.ref C_UnknownRow)))
    (am_BadOrder_init : PySem.W.findIn K (.ref C_BadOrder) "__init__" = some (some (.ref a_BadOrder_init)))
    (am_UnknownRow_init : PySem.W.findIn K (.ref C_UnknownRow) "__init__" = some (some (.ref a_UnknownRow_init)))
    (xmg_LONGEST_NAME : PySem.W.nsIn K mainGlobals "LONGEST_NAME" = some (some (.int 8 tk_LONGEST_NAME)))
    (xmg_is_name : PySem.W.nsIn K mainGlobals "is_name" = some (some (.ref a_is_name)))
    (xmg_first_bad_name : PySem.W.nsIn K mainGlobals "first_bad_name" = some (some (.ref a_first_bad_name)))
    (xmg_first_stray : PySem.W.nsIn K mainGlobals "first_stray" = some (some (.ref a_first_stray)))
    (xmg_order_fault : PySem.W.nsIn K mainGlobals "order_fault" = some (some (.ref a_order_fault)))
    (xmg_count_runs : PySem.W.nsIn K mainGlobals "count_runs" = some (some (.ref a_count_runs)))
    (xmg_runs_of : PySem.W.nsIn K mainGlobals "runs_of" = some (some (.ref a_runs_of)))
    (xmg_check_order : PySem.W.nsIn K mainGlobals "check_order" = some (some (.ref a_check_order)))
    (xmg_run_count : PySem.W.nsIn K mainGlobals "run_count" = some (some (.ref a_run_count)))
    (xmg_broken : PySem.W.nsIn K mainGlobals "broken" = some (some (.ref a_broken)))
    (xmg_is_layout : PySem.W.nsIn K mainGlobals "is_layout" = some (some (.ref a_is_layout)))
    (xmg_extent : PySem.W.nsIn K mainGlobals "extent" = some (some (.ref a_extent)))
    (xmg_gap_rows : PySem.W.nsIn K mainGlobals "gap_rows" = some (some (.ref a_gap_rows)))
    (xmg_common_rows : PySem.W.nsIn K mainGlobals "_common_rows" = some (some (.ref a_common_rows)))
    (xmg_check_columns : PySem.W.nsIn K mainGlobals "check_columns" = some (some (.ref a_check_columns)))
    (xmg_check_rows : PySem.W.nsIn K mainGlobals "_check_rows" = some (some (.ref a_check_rows)))
    (am_Table_in_order : PySem.W.findIn K (.ref C_Table) "_in_order" = some (some (.ref a_Table_in_order)))
    (am_Table_init : PySem.W.findIn K (.ref C_Table) "__init__" = some (some (.ref a_Table_init)))
    (am_Table_getitem : PySem.W.findIn K (.ref C_Table) "__getitem__" = some (some (.ref a_Table_getitem)))
    (am_Table_len : PySem.W.findIn K (.ref C_Table) "__len__" = some (some (.ref a_Table_len)))
    (am_Table_iter : PySem.W.findIn K (.ref C_Table) "__iter__" = some (some (.ref a_Table_iter)))
    (xmg_law_cell : PySem.W.nsIn K mainGlobals "_law_cell" = some (some (.ref a_law_cell)))
    (xmg_law_pool : PySem.W.nsIn K mainGlobals "_law_pool" = some (some (.ref a_law_pool)))
    (xmg_law_word : PySem.W.nsIn K mainGlobals "_law_word" = some (some (.ref a_law_word)))
    (xmg_law_new : PySem.W.nsIn K mainGlobals "_law_new" = some (some (.ref a_law_new)))
    (xmg_law_sequence : PySem.W.nsIn K mainGlobals "_law_sequence" = some (some (.ref a_law_sequence)))
    (xmg_law_row : PySem.W.nsIn K mainGlobals "_law_row" = some (some (.ref a_law_row)))
    (xmg_law_spoiled : PySem.W.nsIn K mainGlobals "_law_spoiled" = some (some (.ref a_law_spoiled)))
    (xmg_law_misfit : PySem.W.nsIn K mainGlobals "_law_misfit" = some (some (.ref a_law_misfit)))
    (xmg_law_is_count : PySem.W.nsIn K mainGlobals "_law_is_count" = some (some (.ref a_law_is_count)))
    (xmg_law_called : PySem.W.nsIn K mainGlobals "_law_called" = some (some (.ref a_law_called)))
    (xmg_law_refused : PySem.W.nsIn K mainGlobals "_law_refused" = some (some (.ref a_law_refused)))
    (xmg_law_no_row : PySem.W.nsIn K mainGlobals "_law_no_row" = some (some (.ref a_law_no_row)))
    (xmg_law_runs : PySem.W.nsIn K mainGlobals "_law_runs" = some (some (.ref a_law_runs)))
    (xmg_law_row_is : PySem.W.nsIn K mainGlobals "_law_row_is" = some (some (.ref a_law_row_is)))
    (xmg_law_numbers_are : PySem.W.nsIn K mainGlobals "_law_numbers_are" = some (some (.ref a_law_numbers_are)))
    (xmg_law_gaps_are : PySem.W.nsIn K mainGlobals "_law_gaps_are" = some (some (.ref a_law_gaps_are)))
    (xmg_law_order_is : PySem.W.nsIn K mainGlobals "_law_order_is" = some (some (.ref a_law_order_is)))
    (xmg_law_list_is : PySem.W.nsIn K mainGlobals "_law_list_is" = some (some (.ref a_law_list_is)))
    (xmg_law : PySem.W.nsIn K mainGlobals "law" = some (some (.ref a_law)))
    (if_Table_in_order : PySem.W.isFn K (.ref a_Table_in_order) = true)
    (if_Table_init : PySem.W.isFn K (.ref a_Table_init) = true)
    (if_Table_getitem : PySem.W.isFn K (.ref a_Table_getitem) = true)
    (if_Table_len : PySem.W.isFn K (.ref a_Table_len) = true)
    (if_Table_iter : PySem.W.isFn K (.ref a_Table_iter) = true)
    (l_BadOrder_init : K.lookup a_BadOrder_init = some ⟨oc_BadOrder_init, od_BadOrder_init, .func (PySem.W.ksFn "__init__" "BadOrder.__init__" (defArgs s_BadOrder_init) (defBody s_BadOrder_init) (defScope s_BadOrder_init) .none kV_BadOrder_init dc_BadOrder_init pm_BadOrder_init an_BadOrder_init (.ref cda_BadOrder_init) ct_BadOrder_init cc_BadOrder_init), sl_BadOrder_init⟩)
    (l_UnknownRow_init : K.lookup a_UnknownRow_init = some ⟨oc_UnknownRow_init, od_UnknownRow_init, .func (PySem.W.ksFn "__init__" "UnknownRow.__init__" (defArgs s_UnknownRow_init) (defBody s_UnknownRow_init) (defScope s_UnknownRow_init) .none kV_UnknownRow_init dc_UnknownRow_init pm_UnknownRow_init an_UnknownRow_init (.ref cda_UnknownRow_init) ct_UnknownRow_init cc_UnknownRow_init), sl_UnknownRow_init⟩)
    (l_is_name : K.lookup a_is_name = some ⟨oc_is_name, od_is_name, .func (PySem.W.fnOf "is_name" "is_name" (defArgs s_is_name) (defBody s_is_name) (defScope s_is_name) .none kV_is_name dc_is_name pm_is_name an_is_name cd_is_name ct_is_name), sl_is_name⟩)
    (l_first_bad_name : K.lookup a_first_bad_name = some ⟨oc_first_bad_name, od_first_bad_name, .func (PySem.W.fnOf "first_bad_name" "first_bad_name" (defArgs s_first_bad_name) (defBody s_first_bad_name) (defScope s_first_bad_name) .none kV_first_bad_name dc_first_bad_name pm_first_bad_name an_first_bad_name cd_first_bad_name ct_first_bad_name), sl_first_bad_name⟩)
    (l_first_stray : K.lookup a_first_stray = some ⟨oc_first_stray, od_first_stray, .func (PySem.W.fnOf "first_stray" "first_stray" (defArgs s_first_stray) (defBody s_first_stray) (defScope s_first_stray) .none kV_first_stray dc_first_stray pm_first_stray an_first_stray cd_first_stray ct_first_stray), sl_first_stray⟩)
    (l_order_fault : K.lookup a_order_fault = some ⟨oc_order_fault, od_order_fault, .func (PySem.W.fnOf "order_fault" "order_fault" (defArgs s_order_fault) (defBody s_order_fault) (defScope s_order_fault) .none kV_order_fault dc_order_fault pm_order_fault an_order_fault cd_order_fault ct_order_fault), sl_order_fault⟩)
    (l_count_runs : K.lookup a_count_runs = some ⟨oc_count_runs, od_count_runs, .func (PySem.W.fnOf "count_runs" "count_runs" (defArgs s_count_runs) (defBody s_count_runs) (defScope s_count_runs) .none kV_count_runs dc_count_runs pm_count_runs an_count_runs cd_count_runs ct_count_runs), sl_count_runs⟩)
    (l_runs_of : K.lookup a_runs_of = some ⟨oc_runs_of, od_runs_of, .func (PySem.W.fnOf "runs_of" "runs_of" (defArgs s_runs_of) (defBody s_runs_of) (defScope s_runs_of) .none kV_runs_of dc_runs_of pm_runs_of an_runs_of cd_runs_of ct_runs_of), sl_runs_of⟩)
    (l_check_order : K.lookup a_check_order = some ⟨oc_check_order, od_check_order, .func (PySem.W.fnOf "check_order" "check_order" (defArgs s_check_order) (defBody s_check_order) (defScope s_check_order) .none kV_check_order dc_check_order pm_check_order an_check_order cd_check_order ct_check_order), sl_check_order⟩)
    (l_run_count : K.lookup a_run_count = some ⟨oc_run_count, od_run_count, .func (PySem.W.fnOf "run_count" "run_count" (defArgs s_run_count) (defBody s_run_count) (defScope s_run_count) .none kV_run_count dc_run_count pm_run_count an_run_count cd_run_count ct_run_count), sl_run_count⟩)
    (l_broken : K.lookup a_broken = some ⟨oc_broken, od_broken, .func (PySem.W.fnOf "broken" "broken" (defArgs s_broken) (defBody s_broken) (defScope s_broken) .none kV_broken dc_broken pm_broken an_broken cd_broken ct_broken), sl_broken⟩)
    (l_is_layout : K.lookup a_is_layout = some ⟨oc_is_layout, od_is_layout, .func (PySem.W.fnOf "is_layout" "is_layout" (defArgs s_is_layout) (defBody s_is_layout) (defScope s_is_layout) .none kV_is_layout dc_is_layout pm_is_layout an_is_layout cd_is_layout ct_is_layout), sl_is_layout⟩)
    (l_extent : K.lookup a_extent = some ⟨oc_extent, od_extent, .func (PySem.W.fnOf "extent" "extent" (defArgs s_extent) (defBody s_extent) (defScope s_extent) .none kV_extent dc_extent pm_extent an_extent cd_extent ct_extent), sl_extent⟩)
    (l_gap_rows : K.lookup a_gap_rows = some ⟨oc_gap_rows, od_gap_rows, .func (PySem.W.fnOf "gap_rows" "gap_rows" (defArgs s_gap_rows) (defBody s_gap_rows) (defScope s_gap_rows) .none kV_gap_rows dc_gap_rows pm_gap_rows an_gap_rows cd_gap_rows ct_gap_rows), sl_gap_rows⟩)
    (l_common_rows : K.lookup a_common_rows = some ⟨oc_common_rows, od_common_rows, .func (PySem.W.fnOf "_common_rows" "_common_rows" (defArgs s_common_rows) (defBody s_common_rows) (defScope s_common_rows) .none kV_common_rows dc_common_rows pm_common_rows an_common_rows cd_common_rows ct_common_rows), sl_common_rows⟩)
    (l_check_columns : K.lookup a_check_columns = some ⟨oc_check_columns, od_check_columns, .func (PySem.W.fnOf "check_columns" "check_columns" (defArgs s_check_columns) (defBody s_check_columns) (defScope s_check_columns) .none kV_check_columns dc_check_columns pm_check_columns an_check_columns cd_check_columns ct_check_columns), sl_check_columns⟩)
    (l_check_rows : K.lookup a_check_rows = some ⟨oc_check_rows, od_check_rows, .func (PySem.W.fnOf "_check_rows" "_check_rows" (defArgs s_check_rows) (defBody s_check_rows) (defScope s_check_rows) .none kV_check_rows dc_check_rows pm_check_rows an_check_rows cd_check_rows ct_check_rows), sl_check_rows⟩)
    (l_Table_in_order : K.lookup a_Table_in_order = some ⟨oc_Table_in_order, od_Table_in_order, .func (PySem.W.fnOf "_in_order" "Table._in_order" (defArgs s_Table_in_order) (defBody s_Table_in_order) (defScope s_Table_in_order) .none kV_Table_in_order dc_Table_in_order pm_Table_in_order an_Table_in_order cd_Table_in_order ct_Table_in_order), sl_Table_in_order⟩)
    (l_Table_init : K.lookup a_Table_init = some ⟨oc_Table_init, od_Table_init, .func (PySem.W.fnOf "__init__" "Table.__init__" (defArgs s_Table_init) (defBody s_Table_init) (defScope s_Table_init) (.ref TD_Table_init) kV_Table_init dc_Table_init pm_Table_init an_Table_init cd_Table_init ct_Table_init), sl_Table_init⟩)
    (l_Table_getitem : K.lookup a_Table_getitem = some ⟨oc_Table_getitem, od_Table_getitem, .func (PySem.W.fnOf "__getitem__" "Table.__getitem__" (defArgs s_Table_getitem) (defBody s_Table_getitem) (defScope s_Table_getitem) .none kV_Table_getitem dc_Table_getitem pm_Table_getitem an_Table_getitem cd_Table_getitem ct_Table_getitem), sl_Table_getitem⟩)
    (l_Table_len : K.lookup a_Table_len = some ⟨oc_Table_len, od_Table_len, .func (PySem.W.fnOf "__len__" "Table.__len__" (defArgs s_Table_len) (defBody s_Table_len) (defScope s_Table_len) .none kV_Table_len dc_Table_len pm_Table_len an_Table_len cd_Table_len ct_Table_len), sl_Table_len⟩)
    (l_Table_iter : K.lookup a_Table_iter = some ⟨oc_Table_iter, od_Table_iter, .func (PySem.W.fnOf "__iter__" "Table.__iter__" (defArgs s_Table_iter) (defBody s_Table_iter) (defScope s_Table_iter) .none kV_Table_iter dc_Table_iter pm_Table_iter an_Table_iter cd_Table_iter ct_Table_iter), sl_Table_iter⟩)
    (l_law_cell : K.lookup a_law_cell = some ⟨oc_law_cell, od_law_cell, .func (PySem.W.fnOf "_law_cell" "_law_cell" (defArgs s_law_cell) (defBody s_law_cell) (defScope s_law_cell) .none kV_law_cell dc_law_cell pm_law_cell an_law_cell cd_law_cell ct_law_cell), sl_law_cell⟩)
    (l_law_pool : K.lookup a_law_pool = some ⟨oc_law_pool, od_law_pool, .func (PySem.W.fnOf "_law_pool" "_law_pool" (defArgs s_law_pool) (defBody s_law_pool) (defScope s_law_pool) .none kV_law_pool dc_law_pool pm_law_pool an_law_pool cd_law_pool ct_law_pool), sl_law_pool⟩)
    (l_law_word : K.lookup a_law_word = some ⟨oc_law_word, od_law_word, .func (PySem.W.fnOf "_law_word" "_law_word" (defArgs s_law_word) (defBody s_law_word) (defScope s_law_word) .none kV_law_word dc_law_word pm_law_word an_law_word cd_law_word ct_law_word), sl_law_word⟩)
    (l_law_new : K.lookup a_law_new = some ⟨oc_law_new, od_law_new, .func (PySem.W.fnOf "_law_new" "_law_new" (defArgs s_law_new) (defBody s_law_new) (defScope s_law_new) .none kV_law_new dc_law_new pm_law_new an_law_new cd_law_new ct_law_new), sl_law_new⟩)
    (l_law_sequence : K.lookup a_law_sequence = some ⟨oc_law_sequence, od_law_sequence, .func (PySem.W.fnOf "_law_sequence" "_law_sequence" (defArgs s_law_sequence) (defBody s_law_sequence) (defScope s_law_sequence) .none kV_law_sequence dc_law_sequence pm_law_sequence an_law_sequence cd_law_sequence ct_law_sequence), sl_law_sequence⟩)
    (l_law_row : K.lookup a_law_row = some ⟨oc_law_row, od_law_row, .func (PySem.W.fnOf "_law_row" "_law_row" (defArgs s_law_row) (defBody s_law_row) (defScope s_law_row) .none kV_law_row dc_law_row pm_law_row an_law_row cd_law_row ct_law_row), sl_law_row⟩)
    (l_law_spoiled : K.lookup a_law_spoiled = some ⟨oc_law_spoiled, od_law_spoiled, .func (PySem.W.fnOf "_law_spoiled" "_law_spoiled" (defArgs s_law_spoiled) (defBody s_law_spoiled) (defScope s_law_spoiled) .none kV_law_spoiled dc_law_spoiled pm_law_spoiled an_law_spoiled cd_law_spoiled ct_law_spoiled), sl_law_spoiled⟩)
    (l_law_misfit : K.lookup a_law_misfit = some ⟨oc_law_misfit, od_law_misfit, .func (PySem.W.fnOf "_law_misfit" "_law_misfit" (defArgs s_law_misfit) (defBody s_law_misfit) (defScope s_law_misfit) .none kV_law_misfit dc_law_misfit pm_law_misfit an_law_misfit cd_law_misfit ct_law_misfit), sl_law_misfit⟩)
    (l_law_is_count : K.lookup a_law_is_count = some ⟨oc_law_is_count, od_law_is_count, .func (PySem.W.fnOf "_law_is_count" "_law_is_count" (defArgs s_law_is_count) (defBody s_law_is_count) (defScope s_law_is_count) .none kV_law_is_count dc_law_is_count pm_law_is_count an_law_is_count cd_law_is_count ct_law_is_count), sl_law_is_count⟩)
    (l_law_called : K.lookup a_law_called = some ⟨oc_law_called, od_law_called, .func (PySem.W.fnOf "_law_called" "_law_called" (defArgs s_law_called) (defBody s_law_called) (defScope s_law_called) .none kV_law_called dc_law_called pm_law_called an_law_called cd_law_called ct_law_called), sl_law_called⟩)
    (l_law_refused : K.lookup a_law_refused = some ⟨oc_law_refused, od_law_refused, .func (PySem.W.fnOf "_law_refused" "_law_refused" (defArgs s_law_refused) (defBody s_law_refused) (defScope s_law_refused) .none kV_law_refused dc_law_refused pm_law_refused an_law_refused cd_law_refused ct_law_refused), sl_law_refused⟩)
    (l_law_no_row : K.lookup a_law_no_row = some ⟨oc_law_no_row, od_law_no_row, .func (PySem.W.fnOf "_law_no_row" "_law_no_row" (defArgs s_law_no_row) (defBody s_law_no_row) (defScope s_law_no_row) .none kV_law_no_row dc_law_no_row pm_law_no_row an_law_no_row cd_law_no_row ct_law_no_row), sl_law_no_row⟩)
    (l_law_runs : K.lookup a_law_runs = some ⟨oc_law_runs, od_law_runs, .func (PySem.W.fnOf "_law_runs" "_law_runs" (defArgs s_law_runs) (defBody s_law_runs) (defScope s_law_runs) .none kV_law_runs dc_law_runs pm_law_runs an_law_runs cd_law_runs ct_law_runs), sl_law_runs⟩)
    (l_law_row_is : K.lookup a_law_row_is = some ⟨oc_law_row_is, od_law_row_is, .func (PySem.W.fnOf "_law_row_is" "_law_row_is" (defArgs s_law_row_is) (defBody s_law_row_is) (defScope s_law_row_is) .none kV_law_row_is dc_law_row_is pm_law_row_is an_law_row_is cd_law_row_is ct_law_row_is), sl_law_row_is⟩)
    (l_law_numbers_are : K.lookup a_law_numbers_are = some ⟨oc_law_numbers_are, od_law_numbers_are, .func (PySem.W.fnOf "_law_numbers_are" "_law_numbers_are" (defArgs s_law_numbers_are) (defBody s_law_numbers_are) (defScope s_law_numbers_are) .none kV_law_numbers_are dc_law_numbers_are pm_law_numbers_are an_law_numbers_are cd_law_numbers_are ct_law_numbers_are), sl_law_numbers_are⟩)
    (l_law_gaps_are : K.lookup a_law_gaps_are = some ⟨oc_law_gaps_are, od_law_gaps_are, .func (PySem.W.fnOf "_law_gaps_are" "_law_gaps_are" (defArgs s_law_gaps_are) (defBody s_law_gaps_are) (defScope s_law_gaps_are) .none kV_law_gaps_are dc_law_gaps_are pm_law_gaps_are an_law_gaps_are cd_law_gaps_are ct_law_gaps_are), sl_law_gaps_are⟩)
    (l_law_order_is : K.lookup a_law_order_is = some ⟨oc_law_order_is, od_law_order_is, .func (PySem.W.fnOf "_law_order_is" "_law_order_is" (defArgs s_law_order_is) (defBody s_law_order_is) (defScope s_law_order_is) .none kV_law_order_is dc_law_order_is pm_law_order_is an_law_order_is cd_law_order_is ct_law_order_is), sl_law_order_is⟩)
    (l_law_list_is : K.lookup a_law_list_is = some ⟨oc_law_list_is, od_law_list_is, .func (PySem.W.fnOf "_law_list_is" "_law_list_is" (defArgs s_law_list_is) (defBody s_law_list_is) (defScope s_law_list_is) .none kV_law_list_is dc_law_list_is pm_law_list_is an_law_list_is cd_law_list_is ct_law_list_is), sl_law_list_is⟩)
    (l_law : K.lookup a_law = some ⟨oc_law, od_law, .func (PySem.W.fnOf "law" "law" (defArgs s_law) (defBody s_law) (defScope s_law) .none kV_law dc_law pm_law an_law cd_law ct_law), sl_law⟩)
    (lx_BadOrder_init : K.lookup cda_BadOrder_init = some ⟨oa_BadOrder_init, da_BadOrder_init, .fields vs_BadOrder_init, la_BadOrder_init⟩)
    (lq_BadOrder_init : K.lookup cc_BadOrder_init = some ⟨ob_BadOrder_init, db_BadOrder_init, .cell (some (.ref C_BadOrder)), lb_BadOrder_init⟩)
    (lx_UnknownRow_init : K.lookup cda_UnknownRow_init = some ⟨oa_UnknownRow_init, da_UnknownRow_init, .fields vs_UnknownRow_init, la_UnknownRow_init⟩)
    (lq_UnknownRow_init : K.lookup cc_UnknownRow_init = some ⟨ob_UnknownRow_init, db_UnknownRow_init, .cell (some (.ref C_UnknownRow)), lb_UnknownRow_init⟩)
    (c_BadOrder_init : PySem.W.codeIn K (.ref cda_BadOrder_init) "BadOrder.__init__" = true)
    (c_UnknownRow_init : PySem.W.codeIn K (.ref cda_UnknownRow_init) "UnknownRow.__init__" = true)
    (c_is_name : PySem.W.codeIn K cd_is_name "is_name" = true)
    (k_is_name : PySem.W.keepIn K (.ref a_is_name) = true)
    (c_first_bad_name : PySem.W.codeIn K cd_first_bad_name "first_bad_name" = true)
    (k_first_bad_name : PySem.W.keepIn K (.ref a_first_bad_name) = true)
    (c_first_stray : PySem.W.codeIn K cd_first_stray "first_stray" = true)
    (k_first_stray : PySem.W.keepIn K (.ref a_first_stray) = true)
    (c_order_fault : PySem.W.codeIn K cd_order_fault "order_fault" = true)
    (k_order_fault : PySem.W.keepIn K (.ref a_order_fault) = true)
    (c_count_runs : PySem.W.codeIn K cd_count_runs "count_runs" = true)
    (k_count_runs : PySem.W.keepIn K (.ref a_count_runs) = true)
    (c_runs_of : PySem.W.codeIn K cd_runs_of "runs_of" = true)
    (k_runs_of : PySem.W.keepIn K (.ref a_runs_of) = true)
    (c_check_order : PySem.W.codeIn K cd_check_order "check_order" = true)
    (k_check_order : PySem.W.keepIn K (.ref a_check_order) = true)
    (c_run_count : PySem.W.codeIn K cd_run_count "run_count" = true)
    (k_run_count : PySem.W.keepIn K (.ref a_run_count) = true)
    (c_broken : PySem.W.codeIn K cd_broken "broken" = true)
    (k_broken : PySem.W.keepIn K (.ref a_broken) = true)
    (c_is_layout : PySem.W.codeIn K cd_is_layout "is_layout" = true)
    (k_is_layout : PySem.W.keepIn K (.ref a_is_layout) = true)
    (c_extent : PySem.W.codeIn K cd_extent "extent" = true)
    (k_extent : PySem.W.keepIn K (.ref a_extent) = true)
    (c_gap_rows : PySem.W.codeIn K cd_gap_rows "gap_rows" = true)
    (k_gap_rows : PySem.W.keepIn K (.ref a_gap_rows) = true)
    (c_common_rows : PySem.W.codeIn K cd_common_rows "_common_rows" = true)
    (k_common_rows : PySem.W.keepIn K (.ref a_common_rows) = true)
    (c_check_columns : PySem.W.codeIn K cd_check_columns "check_columns" = true)
    (k_check_columns : PySem.W.keepIn K (.ref a_check_columns) = true)
    (c_check_rows : PySem.W.codeIn K cd_check_rows "_check_rows" = true)
    (k_check_rows : PySem.W.keepIn K (.ref a_check_rows) = true)
    (c_Table_in_order : PySem.W.codeIn K cd_Table_in_order "Table._in_order" = true)
    (k_Table_in_order : PySem.W.keepIn K (.ref a_Table_in_order) = true)
    (c_Table_init : PySem.W.codeIn K cd_Table_init "Table.__init__" = true)
    (k_Table_init : PySem.W.keepIn K (.ref a_Table_init) = true)
    (lt_Table_init : K.lookup TD_Table_init = some ⟨.type "tuple", to_Table_init, .seq #[.ref e_Table_init] tn_Table_init, ts_Table_init⟩)
    (c_Table_getitem : PySem.W.codeIn K cd_Table_getitem "Table.__getitem__" = true)
    (k_Table_getitem : PySem.W.keepIn K (.ref a_Table_getitem) = true)
    (c_Table_len : PySem.W.codeIn K cd_Table_len "Table.__len__" = true)
    (k_Table_len : PySem.W.keepIn K (.ref a_Table_len) = true)
    (c_Table_iter : PySem.W.codeIn K cd_Table_iter "Table.__iter__" = true)
    (k_Table_iter : PySem.W.keepIn K (.ref a_Table_iter) = true)
    (c_law_cell : PySem.W.codeIn K cd_law_cell "_law_cell" = true)
    (k_law_cell : PySem.W.keepIn K (.ref a_law_cell) = true)
    (c_law_pool : PySem.W.codeIn K cd_law_pool "_law_pool" = true)
    (k_law_pool : PySem.W.keepIn K (.ref a_law_pool) = true)
    (c_law_word : PySem.W.codeIn K cd_law_word "_law_word" = true)
    (k_law_word : PySem.W.keepIn K (.ref a_law_word) = true)
    (c_law_new : PySem.W.codeIn K cd_law_new "_law_new" = true)
    (k_law_new : PySem.W.keepIn K (.ref a_law_new) = true)
    (c_law_sequence : PySem.W.codeIn K cd_law_sequence "_law_sequence" = true)
    (k_law_sequence : PySem.W.keepIn K (.ref a_law_sequence) = true)
    (c_law_row : PySem.W.codeIn K cd_law_row "_law_row" = true)
    (k_law_row : PySem.W.keepIn K (.ref a_law_row) = true)
    (c_law_spoiled : PySem.W.codeIn K cd_law_spoiled "_law_spoiled" = true)
    (k_law_spoiled : PySem.W.keepIn K (.ref a_law_spoiled) = true)
    (c_law_misfit : PySem.W.codeIn K cd_law_misfit "_law_misfit" = true)
    (k_law_misfit : PySem.W.keepIn K (.ref a_law_misfit) = true)
    (c_law_is_count : PySem.W.codeIn K cd_law_is_count "_law_is_count" = true)
    (k_law_is_count : PySem.W.keepIn K (.ref a_law_is_count) = true)
    (c_law_called : PySem.W.codeIn K cd_law_called "_law_called" = true)
    (k_law_called : PySem.W.keepIn K (.ref a_law_called) = true)
    (c_law_refused : PySem.W.codeIn K cd_law_refused "_law_refused" = true)
    (k_law_refused : PySem.W.keepIn K (.ref a_law_refused) = true)
    (c_law_no_row : PySem.W.codeIn K cd_law_no_row "_law_no_row" = true)
    (k_law_no_row : PySem.W.keepIn K (.ref a_law_no_row) = true)
    (c_law_runs : PySem.W.codeIn K cd_law_runs "_law_runs" = true)
    (k_law_runs : PySem.W.keepIn K (.ref a_law_runs) = true)
    (c_law_row_is : PySem.W.codeIn K cd_law_row_is "_law_row_is" = true)
    (k_law_row_is : PySem.W.keepIn K (.ref a_law_row_is) = true)
    (c_law_numbers_are : PySem.W.codeIn K cd_law_numbers_are "_law_numbers_are" = true)
    (k_law_numbers_are : PySem.W.keepIn K (.ref a_law_numbers_are) = true)
    (c_law_gaps_are : PySem.W.codeIn K cd_law_gaps_are "_law_gaps_are" = true)
    (k_law_gaps_are : PySem.W.keepIn K (.ref a_law_gaps_are) = true)
    (c_law_order_is : PySem.W.codeIn K cd_law_order_is "_law_order_is" = true)
    (k_law_order_is : PySem.W.keepIn K (.ref a_law_order_is) = true)
    (c_law_list_is : PySem.W.codeIn K cd_law_list_is "_law_list_is" = true)
    (k_law_list_is : PySem.W.keepIn K (.ref a_law_list_is) = true)
    (c_law : PySem.W.codeIn K cd_law "law" = true)
    (k_law : PySem.W.keepIn K (.ref a_law) = true)
    (pgcl_Table : PySem.W.plainGet K C_Table Str.empty = true)
    (hdcl_Table : PySem.W.hasDictIn K C_Table = true)
    (pocl_Table : PySem.W.plainOver K C_Table = true)
    (sacl_Table : PySem.W.findIn K (.ref C_Table) "__setattr__" = some (some (.builtin "object.__setattr__")))
    (xsf_Table : PySem.W.selfFirst K C_Table = true)
    (kmk_Table : PySem.W.makesIn K C_Table = true)
    (kkmk_Table : PySem.W.keepIn K (.ref C_Table) = true)
    (xc1_Table : PySem.W.findIn K (.ref C_Table) "__class__" = some (some (.builtin "object.__class__")))
    (xc3_Table : PySem.W.mroIn K C_Table (.type "object") = some true)
    (xn_Table_columns : PySem.W.findIn K (.ref C_Table) "columns" = some none)
    (xn_Table_rows : PySem.W.findIn K (.ref C_Table) "rows" = some none)
    (xc2 : PySem.W.specialIn K (.builtin "object.__class__") "__get__" = some (some (.builtin "getset_descriptor.__get__")))
    (xc4 : PySem.W.takesIn K (.builtin "object.__class__") = some true)
    (xtp_RowsError : PySem.W.typeIn K (.ref C_RowsError) = some (.type "type"))
    (xic_RowsError : PySem.W.isClsIn K C_RowsError = true)
    (xtp_Unknown : PySem.W.typeIn K (.ref C_Unknown) = some (.type "type"))
    (xic_Unknown : PySem.W.isClsIn K C_Unknown = true)
    (xtp_Impossible : PySem.W.typeIn K (.ref C_Impossible) = some (.type "type"))
    (xic_Impossible : PySem.W.isClsIn K C_Impossible = true)
    (xtp_BadOrder : PySem.W.typeIn K (.ref C_BadOrder) = some (.type "type"))
    (xic_BadOrder : PySem.W.isClsIn K C_BadOrder = true)
    (xtp_UnknownRow : PySem.W.typeIn K (.ref C_UnknownRow) = some (.type "type"))
    (xic_UnknownRow : PySem.W.isClsIn K C_UnknownRow = true)
    (g1SC_BadOrder : PySem.W.clsIn K C_BadOrder = some cd_BadOrder)
    (g2SC_BadOrder : PySem.W.mroIn K C_BadOrder (.ref C_BadOrder) = some true)
    (ksSC_BadOrder : PySem.W.ks_superIn K C_BadOrder C_BadOrder "__init__" = some (some (.builtin "ValueError.__init__")))
    (g4SC_BadOrder : PySem.W.nsIn K PySem.cStatics "thirdparty.any" = some none)
    (g5SC_BadOrder : PySem.W.nsIn K mainGlobals "super" = some none)
    (rfSC_BadOrder : (l.prog.main.scope.names.lookup ("super" : Str)).isSome = false)
    (kxSC_BadOrder : PySem.W.excInitIn K C_BadOrder [.type "ValueError", .type "Exception", .type "BaseException", .type "object"] "ValueError.__new__" = true)
    (g6SC_BadOrder : PySem.W.findIn K (.ref C_BadOrder) "__setattr__" = some (some (.builtin "object.__setattr__")))
    (rv_BadOrder_init : vs_BadOrder_init[2]? = some (.str fl_BadOrder_init tf_BadOrder_init))
    (rg_BadOrder_init : ((l.prog.main.file : Str) == fl_BadOrder_init) = true)
    (xti_BadOrder : PySem.W.typeIn K (.ref a_BadOrder_init) = some (.type "function"))
    (xxn_BadOrder_index : PySem.W.findIn K (.ref C_BadOrder) "index" = some none)
    (xk_BadOrder : PySem.W.keepIn K (.ref C_BadOrder) = true)
    (xbp_BadOrder : PySem.W.subIn K (.ref C_BadOrder) (.type "BaseException") = some true)
    (xsv_BadOrder : PySem.W.subIn K (.ref C_BadOrder) (.type "ValueError") = some true)
    (xss_BadOrder : PySem.W.subIn K (.ref C_BadOrder) (.ref C_BadOrder) = some true)
    (xsu_BadOrder_RowsError : PySem.W.subIn K (.ref C_BadOrder) (.ref C_RowsError) = some true)
    (xsu_BadOrder_Unknown : PySem.W.subIn K (.ref C_BadOrder) (.ref C_Unknown) = some false)
    (xsu_BadOrder_Impossible : PySem.W.subIn K (.ref C_BadOrder) (.ref C_Impossible) = some false)
    (xe1_BadOrder : PySem.W.findIn K (.ref C_BadOrder) "__getattribute__" = some (some (.builtin "BaseException.__getattribute__")))
    (xe2_BadOrder : PySem.W.findIn K (.ref C_BadOrder) "__getattr__" = some none)
    (xe3_BadOrder : PySem.W.hasDictIn K C_BadOrder = true)
    (xe4_BadOrder : PySem.W.findIn K (.ref C_BadOrder) "__class__" = some (some (.builtin "object.__class__")))
    (xe5_BadOrder : PySem.W.mroIn K C_BadOrder (.type "object") = some true)
    (g1SC_UnknownRow : PySem.W.clsIn K C_UnknownRow = some cd_UnknownRow)
    (g2SC_UnknownRow : PySem.W.mroIn K C_UnknownRow (.ref C_UnknownRow) = some true)
    (ksSC_UnknownRow : PySem.W.ks_superIn K C_UnknownRow C_UnknownRow "__init__" = some (some (.builtin "ValueError.__init__")))
    (g4SC_UnknownRow : PySem.W.nsIn K PySem.cStatics "thirdparty.any" = some none)
    (g5SC_UnknownRow : PySem.W.nsIn K mainGlobals "super" = some none)
    (rfSC_UnknownRow : (l.prog.main.scope.names.lookup ("super" : Str)).isSome = false)
    (kxSC_UnknownRow : PySem.W.excInitIn K C_UnknownRow [.type "ValueError", .type "Exception", .type "BaseException", .type "object"] "ValueError.__new__" = true)
    (g6SC_UnknownRow : PySem.W.findIn K (.ref C_UnknownRow) "__setattr__" = some (some (.builtin "object.__setattr__")))
    (rv_UnknownRow_init : vs_UnknownRow_init[2]? = some (.str fl_UnknownRow_init tf_UnknownRow_init))
    (rg_UnknownRow_init : ((l.prog.main.file : Str) == fl_UnknownRow_init) = true)
    (xti_UnknownRow : PySem.W.typeIn K (.ref a_UnknownRow_init) = some (.type "function"))
    (xxn_UnknownRow_number : PySem.W.findIn K (.ref C_UnknownRow) "number" = some none)
    (xk_UnknownRow : PySem.W.keepIn K (.ref C_UnknownRow) = true)
    (xbp_UnknownRow : PySem.W.subIn K (.ref C_UnknownRow) (.type "BaseException") = some true)
    (xsv_UnknownRow : PySem.W.subIn K (.ref C_UnknownRow) (.type "ValueError") = some true)
    (xss_UnknownRow : PySem.W.subIn K (.ref C_UnknownRow) (.ref C_UnknownRow) = some true)
    (xsu_UnknownRow_RowsError : PySem.W.subIn K (.ref C_UnknownRow) (.ref C_RowsError) = some true)
    (xsu_UnknownRow_Unknown : PySem.W.subIn K (.ref C_UnknownRow) (.ref C_Unknown) = some true)
    (xsu_UnknownRow_Impossible : PySem.W.subIn K (.ref C_UnknownRow) (.ref C_Impossible) = some false)
    (xe1_UnknownRow : PySem.W.findIn K (.ref C_UnknownRow) "__getattribute__" = some (some (.builtin "BaseException.__getattribute__")))
    (xe2_UnknownRow : PySem.W.findIn K (.ref C_UnknownRow) "__getattr__" = some none)
    (xe3_UnknownRow : PySem.W.hasDictIn K C_UnknownRow = true)
    (xe4_UnknownRow : PySem.W.findIn K (.ref C_UnknownRow) "__class__" = some (some (.builtin "object.__class__")))
    (xe5_UnknownRow : PySem.W.mroIn K C_UnknownRow (.type "object") = some true)
    (r1cr_Table : PySem.W.readsIn K C_Table (.type "type") = true)
    (r2cr_Table : PySem.W.specialIn K (.ref C_Table) "__getattribute__" = some (some (.builtin "type.__getattribute__")))
    (xcv_Table_MOST_COLUMNS : PySem.W.findCls K (.ref C_Table) (.type "type") "MOST_COLUMNS" = some (.val (.int 12 tk_Table_MOST_COLUMNS)))
    (xcv_Table_MOST_ROWS : PySem.W.findCls K (.ref C_Table) (.type "type") "MOST_ROWS" = some (.val (.int 48 tk_Table_MOST_ROWS)))
    (xn_abs : PySem.W.nsIn K mainGlobals "abs" = some none)
    (xn_int : PySem.W.nsIn K mainGlobals "int" = some none)
    (xn_isinstance : PySem.W.nsIn K mainGlobals "isinstance" = some none)
    (xn_range : PySem.W.nsIn K mainGlobals "range" = some none)
    (xn_len : PySem.W.nsIn K mainGlobals "len" = some none)
    (xn_str : PySem.W.nsIn K mainGlobals "str" = some none)
    (xn_tuple : PySem.W.nsIn K mainGlobals "tuple" = some none)
    (xn_list : PySem.W.nsIn K mainGlobals "list" = some none)
    (xn_ValueError : PySem.W.nsIn K mainGlobals "ValueError" = some none)
    (xn_all : PySem.W.nsIn K mainGlobals "all" = some none)
    (xn_max : PySem.W.nsIn K mainGlobals "max" = some none)
    (xn_min : PySem.W.nsIn K mainGlobals "min" = some none)
    (xn_enumerate : PySem.W.nsIn K mainGlobals "enumerate" = some none)
    (xn_iter : PySem.W.nsIn K mainGlobals "iter" = some none)
    (xn_bool : PySem.W.nsIn K mainGlobals "bool" = some none)
    (xn_sorted : PySem.W.nsIn K mainGlobals "sorted" = some none)
    : ∃ fd : FuncData, (∀ (s : Shared) (v : Value), BindsTo s fd ⟨[v], []⟩ [("script", v)]) ∧ ∀ base : Heap, K.In base → base.Ns mainGlobals mg → FnOk l.prog w K mg base CX0 15 fa fd ["script"] (spLaw K) := by
  have e := hfa.symm.trans (PySem.W.mg_of X G xmg_law)
  cases e
  have T : Txt l.prog K mg ⟨C_Table, C_RowsError, C_Unknown, C_Impossible, C_BadOrder, C_UnknownRow, a_BadOrder_init, _, a_UnknownRow_init, _, a_is_name, _, a_first_bad_name, _, a_first_stray, _, a_order_fault, _, a_count_runs, _, a_runs_of, _, a_check_order, _, a_run_count, _, a_broken, _, a_is_layout, _, a_extent, _, a_gap_rows, _, a_common_rows, _, a_check_columns, _, a_check_rows, _, a_Table_in_order, _, a_Table_init, _, a_Table_getitem, _, a_Table_len, _, a_Table_iter, _, a_law_cell, _, a_law_pool, _, a_law_word, _, a_law_new, _, a_law_sequence, _, a_law_row, _, a_law_spoiled, _, a_law_misfit, _, a_law_is_count, _, a_law_called, _, a_law_refused, _, a_law_no_row, _, a_law_runs, _, a_law_row_is, _, a_law_numbers_are, _, a_law_gaps_are, _, a_law_order_is, _, a_law_list_is, _, fa, _, e_Table_init⟩ := {
    mg_Table := PySem.W.mg_of X G xmg_Table
    cl_Table := ⟨pgcl_Table, hdcl_Table, pocl_Table, sacl_Table⟩
    sf_Table := xsf_Table
    mk_Table := ⟨kmk_Table, am_Table_init, if_Table_init, kkmk_Table⟩
    c1_Table := xc1_Table
    c3_Table := xc3_Table
    n_Table_columns := xn_Table_columns
    n_Table_rows := xn_Table_rows
    c2 := xc2
    c4 := xc4
    mg_RowsError := PySem.W.mg_of X G xmg_RowsError
    tp_RowsError := xtp_RowsError
    ic_RowsError := xic_RowsError
    mg_Unknown := PySem.W.mg_of X G xmg_Unknown
    tp_Unknown := xtp_Unknown
    ic_Unknown := xic_Unknown
    mg_Impossible := PySem.W.mg_of X G xmg_Impossible
    tp_Impossible := xtp_Impossible
    ic_Impossible := xic_Impossible
    mg_BadOrder := PySem.W.mg_of X G xmg_BadOrder
    tp_BadOrder := xtp_BadOrder
    ic_BadOrder := xic_BadOrder
    mg_UnknownRow := PySem.W.mg_of X G xmg_UnknownRow
    tp_UnknownRow := xtp_UnknownRow
    ic_UnknownRow := xic_UnknownRow
    SC_BadOrder := ⟨⟨_, g1SC_BadOrder⟩, g2SC_BadOrder, ksSC_BadOrder, g4SC_BadOrder, xsv_BadOrder, PySem.W.mg_none_of X G g5SC_BadOrder, rfSC_BadOrder, oex_of kxSC_BadOrder xe3_BadOrder g6SC_BadOrder xbp_BadOrder xtp_BadOrder xk_BadOrder⟩
    SF_BadOrder := ⟨⟨_, _, _, _, _, _, _, _, _, _, rfl, l_BadOrder_init, c_BadOrder_init, ⟨_, _, _, _, _, _, lx_BadOrder_init, rv_BadOrder_init, rg_BadOrder_init⟩, _, _, _, lq_BadOrder_init⟩⟩
    ii_BadOrder := am_BadOrder_init
    ti_BadOrder := xti_BadOrder
    b_BadOrder_init := fun s us _ hl => by rw [List.append_nil] at hl ⊢; exact .of_eq (match us, hl with | [_, _], _ => rfl)
    xn_BadOrder_index := xxn_BadOrder_index
    xf_BadOrder := ⟨xe1_BadOrder, xe2_BadOrder, xbp_BadOrder, xe3_BadOrder⟩
    ec_BadOrder := ⟨xe1_BadOrder, xe2_BadOrder, xbp_BadOrder, xe3_BadOrder, xe4_BadOrder, xc2, xc4, xe5_BadOrder⟩
    k_BadOrder := xk_BadOrder
    bp_BadOrder := xbp_BadOrder
    sv_BadOrder := xsv_BadOrder
    ss_BadOrder := xss_BadOrder
    su_BadOrder_RowsError := xsu_BadOrder_RowsError
    su_BadOrder_Unknown := xsu_BadOrder_Unknown
    su_BadOrder_Impossible := xsu_BadOrder_Impossible
    e1_BadOrder := xe1_BadOrder
    e2_BadOrder := xe2_BadOrder
    e3_BadOrder := xe3_BadOrder
    e4_BadOrder := xe4_BadOrder
    e5_BadOrder := xe5_BadOrder
    SC_UnknownRow := ⟨⟨_, g1SC_UnknownRow⟩, g2SC_UnknownRow, ksSC_UnknownRow, g4SC_UnknownRow, xsv_UnknownRow, PySem.W.mg_none_of X G g5SC_UnknownRow, rfSC_UnknownRow, oex_of kxSC_UnknownRow xe3_UnknownRow g6SC_UnknownRow xbp_UnknownRow xtp_UnknownRow xk_UnknownRow⟩
    SF_UnknownRow := ⟨⟨_, _, _, _, _, _, _, _, _, _, rfl, l_UnknownRow_init, c_UnknownRow_init, ⟨_, _, _, _, _, _, lx_UnknownRow_init, rv_UnknownRow_init, rg_UnknownRow_init⟩, _, _, _, lq_UnknownRow_init⟩⟩
    ii_UnknownRow := am_UnknownRow_init
    ti_UnknownRow := xti_UnknownRow
    b_UnknownRow_init := fun s us _ hl => by rw [List.append_nil] at hl ⊢; exact .of_eq (match us, hl with | [_, _], _ => rfl)
    xn_UnknownRow_number := xxn_UnknownRow_number
    xf_UnknownRow := ⟨xe1_UnknownRow, xe2_UnknownRow, xbp_UnknownRow, xe3_UnknownRow⟩
    ec_UnknownRow := ⟨xe1_UnknownRow, xe2_UnknownRow, xbp_UnknownRow, xe3_UnknownRow, xe4_UnknownRow, xc2, xc4, xe5_UnknownRow⟩
    k_UnknownRow := xk_UnknownRow
    bp_UnknownRow := xbp_UnknownRow
    sv_UnknownRow := xsv_UnknownRow
    ss_UnknownRow := xss_UnknownRow
    su_UnknownRow_RowsError := xsu_UnknownRow_RowsError
    su_UnknownRow_Unknown := xsu_UnknownRow_Unknown
    su_UnknownRow_Impossible := xsu_UnknownRow_Impossible
    e1_UnknownRow := xe1_UnknownRow
    e2_UnknownRow := xe2_UnknownRow
    e3_UnknownRow := xe3_UnknownRow
    e4_UnknownRow := xe4_UnknownRow
    e5_UnknownRow := xe5_UnknownRow
    mg_LONGEST_NAME := ⟨_, PySem.W.mg_of X G xmg_LONGEST_NAME⟩
    cr_Table := ⟨r1cr_Table, r2cr_Table⟩
    cv_Table_MOST_COLUMNS := ⟨_, ⟨xcv_Table_MOST_COLUMNS, ⟨_, rfl⟩⟩⟩
    cv_Table_MOST_ROWS := ⟨_, ⟨xcv_Table_MOST_ROWS, ⟨_, rfl⟩⟩⟩
    n_abs := PySem.W.mg_none_of X G xn_abs
    n_int := PySem.W.mg_none_of X G xn_int
    n_isinstance := PySem.W.mg_none_of X G xn_isinstance
    n_range := PySem.W.mg_none_of X G xn_range
    n_len := PySem.W.mg_none_of X G xn_len
    n_str := PySem.W.mg_none_of X G xn_str
    n_tuple := PySem.W.mg_none_of X G xn_tuple
    n_list := PySem.W.mg_none_of X G xn_list
    n_ValueError := PySem.W.mg_none_of X G xn_ValueError
    n_all := PySem.W.mg_none_of X G xn_all
    n_max := PySem.W.mg_none_of X G xn_max
    n_min := PySem.W.mg_none_of X G xn_min
    n_enumerate := PySem.W.mg_none_of X G xn_enumerate
    n_iter := PySem.W.mg_none_of X G xn_iter
    n_bool := PySem.W.mg_none_of X G xn_bool
    n_sorted := PySem.W.mg_none_of X G xn_sorted
    F_is_name := fun_mk (st := s_is_name) l_is_name c_is_name k_is_name
    b_is_name := (fun_mk (st := s_is_name) l_is_name c_is_name k_is_name).binds fun _ _ _ _ _ _ us hl => match us, hl with | [_], _ => rfl
    mg_is_name := PySem.W.mg_of X G xmg_is_name
    F_first_bad_name := fun_mk (st := s_first_bad_name) l_first_bad_name c_first_bad_name k_first_bad_name
    b_first_bad_name := (fun_mk (st := s_first_bad_name) l_first_bad_name c_first_bad_name k_first_bad_name).binds fun _ _ _ _ _ _ us hl => match us, hl with | [_], _ => rfl
    mg_first_bad_name := PySem.W.mg_of X G xmg_first_bad_name
    F_first_stray := fun_mk (st := s_first_stray) l_first_stray c_first_stray k_first_stray
    b_first_stray := (fun_mk (st := s_first_stray) l_first_stray c_first_stray k_first_stray).binds fun _ _ _ _ _ _ us hl => match us, hl with | [_, _], _ => rfl
    mg_first_stray := PySem.W.mg_of X G xmg_first_stray
    F_order_fault := fun_mk (st := s_order_fault) l_order_fault c_order_fault k_order_fault
    b_order_fault := (fun_mk (st := s_order_fault) l_order_fault c_order_fault k_order_fault).binds fun _ _ _ _ _ _ us hl => match us, hl with | [_, _], _ => rfl
    mg_order_fault := PySem.W.mg_of X G xmg_order_fault
    F_count_runs := fun_mk (st := s_count_runs) l_count_runs c_count_runs k_count_runs
    b_count_runs := (fun_mk (st := s_count_runs) l_count_runs c_count_runs k_count_runs).binds fun _ _ _ _ _ _ us hl => match us, hl with | [_], _ => rfl
    mg_count_runs := PySem.W.mg_of X G xmg_count_runs
    F_runs_of := fun_mk (st := s_runs_of) l_runs_of c_runs_of k_runs_of
    b_runs_of := (fun_mk (st := s_runs_of) l_runs_of c_runs_of k_runs_of).binds fun _ _ _ _ _ _ us hl => match us, hl with | [_, _], _ => rfl
    mg_runs_of := PySem.W.mg_of X G xmg_runs_of
    F_check_order := fun_mk (st := s_check_order) l_check_order c_check_order k_check_order
    b_check_order := (fun_mk (st := s_check_order) l_check_order c_check_order k_check_order).binds fun _ _ _ _ _ _ us hl => match us, hl with | [_, _], _ => rfl
    mg_check_order := PySem.W.mg_of X G xmg_check_order
    F_run_count := fun_mk (st := s_run_count) l_run_count c_run_count k_run_count
    b_run_count := (fun_mk (st := s_run_count) l_run_count c_run_count k_run_count).binds fun _ _ _ _ _ _ us hl => match us, hl with | [_, _, _], _ => rfl
    mg_run_count := PySem.W.mg_of X G xmg_run_count
    F_broken := fun_mk (st := s_broken) l_broken c_broken k_broken
    b_broken := (fun_mk (st := s_broken) l_broken c_broken k_broken).binds fun _ _ _ _ _ _ us hl => match us, hl with | [_, _], _ => rfl
    mg_broken := PySem.W.mg_of X G xmg_broken
    F_is_layout := fun_mk (st := s_is_layout) l_is_layout c_is_layout k_is_layout
    b_is_layout := (fun_mk (st := s_is_layout) l_is_layout c_is_layout k_is_layout).binds fun _ _ _ _ _ _ us hl => match us, hl with | [_, _], _ => rfl
    mg_is_layout := PySem.W.mg_of X G xmg_is_layout
    F_extent := fun_mk (st := s_extent) l_extent c_extent k_extent
    b_extent := (fun_mk (st := s_extent) l_extent c_extent k_extent).binds fun _ _ _ _ _ _ us hl => match us, hl with | [_, _, _], _ => rfl
    mg_extent := PySem.W.mg_of X G xmg_extent
    F_gap_rows := fun_mk (st := s_gap_rows) l_gap_rows c_gap_rows k_gap_rows
    b_gap_rows := (fun_mk (st := s_gap_rows) l_gap_rows c_gap_rows k_gap_rows).binds fun _ _ _ _ _ _ us hl => match us, hl with | [_, _], _ => rfl
    mg_gap_rows := PySem.W.mg_of X G xmg_gap_rows
    F_common_rows := fun_mk (st := s_common_rows) l_common_rows c_common_rows k_common_rows
    b_common_rows := (fun_mk (st := s_common_rows) l_common_rows c_common_rows k_common_rows).binds fun _ _ _ _ _ _ us hl => match us, hl with | [_, _, _], _ => rfl
    mg_common_rows := PySem.W.mg_of X G xmg_common_rows
    F_check_columns := fun_mk (st := s_check_columns) l_check_columns c_check_columns k_check_columns
    b_check_columns := (fun_mk (st := s_check_columns) l_check_columns c_check_columns k_check_columns).binds fun _ _ _ _ _ _ us hl => match us, hl with | [_], _ => rfl
    mg_check_columns := PySem.W.mg_of X G xmg_check_columns
    F_check_rows := fun_mk (st := s_check_rows) l_check_rows c_check_rows k_check_rows
    b_check_rows := (fun_mk (st := s_check_rows) l_check_rows c_check_rows k_check_rows).binds fun _ _ _ _ _ _ us hl => match us, hl with | [_, _], _ => rfl
    mg_check_rows := PySem.W.mg_of X G xmg_check_rows
    F_Table_in_order := fun_mk (st := s_Table_in_order) l_Table_in_order c_Table_in_order k_Table_in_order
    b_Table_in_order := (fun_mk (st := s_Table_in_order) l_Table_in_order c_Table_in_order k_Table_in_order).binds fun _ _ _ _ _ _ us hl => match us, hl with | [_, _], _ => rfl
    m_Table_in_order := ⟨am_Table_in_order, if_Table_in_order, k_Table_in_order⟩
    F_Table_init := ⟨⟨_, _, _, _, _, _, _, _, _, _, rfl, l_Table_init, c_Table_init, .inr ⟨by simp, TD_Table_init, _, [.ref e_Table_init], _, rfl, lt_Table_init, rfl, .cons rfl .nil⟩, .inl rfl⟩, k_Table_init⟩
    m_Table_init := ⟨am_Table_init, if_Table_init, k_Table_init⟩
    F_Table_getitem := fun_mk (st := s_Table_getitem) l_Table_getitem c_Table_getitem k_Table_getitem
    b_Table_getitem := (fun_mk (st := s_Table_getitem) l_Table_getitem c_Table_getitem k_Table_getitem).binds fun _ _ _ _ _ _ us hl => match us, hl with | [_, _], _ => rfl
    m_Table_getitem := ⟨am_Table_getitem, if_Table_getitem, k_Table_getitem⟩
    F_Table_len := fun_mk (st := s_Table_len) l_Table_len c_Table_len k_Table_len
    b_Table_len := (fun_mk (st := s_Table_len) l_Table_len c_Table_len k_Table_len).binds fun _ _ _ _ _ _ us hl => match us, hl with | [_], _ => rfl
    m_Table_len := ⟨am_Table_len, if_Table_len, k_Table_len⟩
    F_Table_iter := fun_mk (st := s_Table_iter) l_Table_iter c_Table_iter k_Table_iter
    b_Table_iter := (fun_mk (st := s_Table_iter) l_Table_iter c_Table_iter k_Table_iter).binds fun _ _ _ _ _ _ us hl => match us, hl with | [_], _ => rfl
    m_Table_iter := ⟨am_Table_iter, if_Table_iter, k_Table_iter⟩
    F_law_cell := fun_mk (st := s_law_cell) l_law_cell c_law_cell k_law_cell
    b_law_cell := (fun_mk (st := s_law_cell) l_law_cell c_law_cell k_law_cell).binds fun _ _ _ _ _ _ us hl => match us, hl with | [_, _], _ => rfl
    mg_law_cell := PySem.W.mg_of X G xmg_law_cell
    F_law_pool := fun_mk (st := s_law_pool) l_law_pool c_law_pool k_law_pool
    b_law_pool := (fun_mk (st := s_law_pool) l_law_pool c_law_pool k_law_pool).binds fun _ _ _ _ _ _ us hl => match us, hl with | [_, _, _], _ => rfl
    mg_law_pool := PySem.W.mg_of X G xmg_law_pool
    F_law_word := fun_mk (st := s_law_word) l_law_word c_law_word k_law_word
    b_law_word := (fun_mk (st := s_law_word) l_law_word c_law_word k_law_word).binds fun _ _ _ _ _ _ us hl => match us, hl with | [_, _], _ => rfl
    mg_law_word := PySem.W.mg_of X G xmg_law_word
    F_law_new := fun_mk (st := s_law_new) l_law_new c_law_new k_law_new
    b_law_new := (fun_mk (st := s_law_new) l_law_new c_law_new k_law_new).binds fun _ _ _ _ _ _ us hl => match us, hl with | [_, _], _ => rfl
    mg_law_new := PySem.W.mg_of X G xmg_law_new
    F_law_sequence := fun_mk (st := s_law_sequence) l_law_sequence c_law_sequence k_law_sequence
    b_law_sequence := (fun_mk (st := s_law_sequence) l_law_sequence c_law_sequence k_law_sequence).binds fun _ _ _ _ _ _ us hl => match us, hl with | [_, _], _ => rfl
    mg_law_sequence := PySem.W.mg_of X G xmg_law_sequence
    F_law_row := fun_mk (st := s_law_row) l_law_row c_law_row k_law_row
    b_law_row := (fun_mk (st := s_law_row) l_law_row c_law_row k_law_row).binds fun _ _ _ _ _ _ us hl => match us, hl with | [_, _, _, _], _ => rfl
    mg_law_row := PySem.W.mg_of X G xmg_law_row
    F_law_spoiled := fun_mk (st := s_law_spoiled) l_law_spoiled c_law_spoiled k_law_spoiled
    b_law_spoiled := (fun_mk (st := s_law_spoiled) l_law_spoiled c_law_spoiled k_law_spoiled).binds fun _ _ _ _ _ _ us hl => match us, hl with | [_, _, _], _ => rfl
    mg_law_spoiled := PySem.W.mg_of X G xmg_law_spoiled
    F_law_misfit := fun_mk (st := s_law_misfit) l_law_misfit c_law_misfit k_law_misfit
    b_law_misfit := (fun_mk (st := s_law_misfit) l_law_misfit c_law_misfit k_law_misfit).binds fun _ _ _ _ _ _ us hl => match us, hl with | [_, _], _ => rfl
    mg_law_misfit := PySem.W.mg_of X G xmg_law_misfit
    F_law_is_count := fun_mk (st := s_law_is_count) l_law_is_count c_law_is_count k_law_is_count
    b_law_is_count := (fun_mk (st := s_law_is_count) l_law_is_count c_law_is_count k_law_is_count).binds fun _ _ _ _ _ _ us hl => match us, hl with | [_, _], _ => rfl
    mg_law_is_count := PySem.W.mg_of X G xmg_law_is_count
    F_law_called := fun_mk (st := s_law_called) l_law_called c_law_called k_law_called
    b_law_called := (fun_mk (st := s_law_called) l_law_called c_law_called k_law_called).binds fun _ _ _ _ _ _ us hl => match us, hl with | [_, _, _, _], _ => rfl
    mg_law_called := PySem.W.mg_of X G xmg_law_called
    F_law_refused := fun_mk (st := s_law_refused) l_law_refused c_law_refused k_law_refused
    b_law_refused := (fun_mk (st := s_law_refused) l_law_refused c_law_refused k_law_refused).binds fun _ _ _ _ _ _ us hl => match us, hl with | [_, _, _, _, _], _ => rfl
    mg_law_refused := PySem.W.mg_of X G xmg_law_refused
    F_law_no_row := fun_mk (st := s_law_no_row) l_law_no_row c_law_no_row k_law_no_row
    b_law_no_row := (fun_mk (st := s_law_no_row) l_law_no_row c_law_no_row k_law_no_row).binds fun _ _ _ _ _ _ us hl => match us, hl with | [_, _, _, _], _ => rfl
    mg_law_no_row := PySem.W.mg_of X G xmg_law_no_row
    F_law_runs := fun_mk (st := s_law_runs) l_law_runs c_law_runs k_law_runs
    b_law_runs := (fun_mk (st := s_law_runs) l_law_runs c_law_runs k_law_runs).binds fun _ _ _ _ _ _ us hl => match us, hl with | [_, _], _ => rfl
    mg_law_runs := PySem.W.mg_of X G xmg_law_runs
    F_law_row_is := fun_mk (st := s_law_row_is) l_law_row_is c_law_row_is k_law_row_is
    b_law_row_is := (fun_mk (st := s_law_row_is) l_law_row_is c_law_row_is k_law_row_is).binds fun _ _ _ _ _ _ us hl => match us, hl with | [_, _, _, _], _ => rfl
    mg_law_row_is := PySem.W.mg_of X G xmg_law_row_is
    F_law_numbers_are := fun_mk (st := s_law_numbers_are) l_law_numbers_are c_law_numbers_are k_law_numbers_are
    b_law_numbers_are := (fun_mk (st := s_law_numbers_are) l_law_numbers_are c_law_numbers_are k_law_numbers_are).binds fun _ _ _ _ _ _ us hl => match us, hl with | [_, _], _ => rfl
    mg_law_numbers_are := PySem.W.mg_of X G xmg_law_numbers_are
    F_law_gaps_are := fun_mk (st := s_law_gaps_are) l_law_gaps_are c_law_gaps_are k_law_gaps_are
    b_law_gaps_are := (fun_mk (st := s_law_gaps_are) l_law_gaps_are c_law_gaps_are k_law_gaps_are).binds fun _ _ _ _ _ _ us hl => match us, hl with | [_, _, _], _ => rfl
    mg_law_gaps_are := PySem.W.mg_of X G xmg_law_gaps_are
    F_law_order_is := fun_mk (st := s_law_order_is) l_law_order_is c_law_order_is k_law_order_is
    b_law_order_is := (fun_mk (st := s_law_order_is) l_law_order_is c_law_order_is k_law_order_is).binds fun _ _ _ _ _ _ us hl => match us, hl with | [_, _, _], _ => rfl
    mg_law_order_is := PySem.W.mg_of X G xmg_law_order_is
    F_law_list_is := fun_mk (st := s_law_list_is) l_law_list_is c_law_list_is k_law_list_is
    b_law_list_is := (fun_mk (st := s_law_list_is) l_law_list_is c_law_list_is k_law_list_is).binds fun _ _ _ _ _ _ us hl => match us, hl with | [_, _, _, _], _ => rfl
    mg_law_list_is := PySem.W.mg_of X G xmg_law_list_is
    F_law := fun_mk (st := s_law) l_law c_law k_law
    b_law := (fun_mk (st := s_law) l_law c_law k_law).binds fun _ _ _ _ _ _ us hl => match us, hl with | [_], _ => rfl
    mg_law := PySem.W.mg_of X G xmg_law
  }
  exact ⟨_, fun s v => .of_eq rfl, fun base _ _ => ok_law T⟩
theorem walk {l : PySem.W.OpenLaw} {q : Program} {loose : List Str} {XP : (Str → Option Value) → Heap → Prop} {YP : World → Heap → Prop} {d : DefRec} {K : Params → PySem.W.Frag} (hn : l.most = some 63) (hdf : d.params.defaults = [])
    (hY : ∀ (w : World) (h : Heap), YP w h → (K w.params).In h)
    (F : ∀ (w : World) (mg : Str → Option Value) (fa : Addr) (h : Heap), (K w.params).In h → h.Ns mainGlobals mg → mg d.name = some (.ref fa) →
      ∃ fd : FuncData, (∀ (s : Shared) (u : Value), BindsTo s fd ⟨[u], []⟩ [("script", u)]) ∧ ∀ base : Heap, (K w.params).In base → base.Ns mainGlobals mg → FnOk l.prog w (K w.params) mg base CX0 15 fa fd ["script"] (spLaw (K w.params))) :
    PySem.W.WalkO q loose XP YP l.row.toRowW d [] (fun f vs => PySem.call f vs) :=
  L2.walk_of (n := 63) (k := 15) (x := "script") (CX := fun _ => CX0) (sp := fun w => spLaw (K w.params)) hn (by decide) hdf ⟨rfl, by decide, by decide⟩ hY F (fun _ _ a ns hl _ hS => ⟨a, ns, rfl, hS, hl, fun _ => rfl⟩) fun _ _ _ _ _ z => z
end My
open PySem PySem.W PyProof.Rows
set_option maxRecDepth 100000 in
set_option maxHeartbeats 0 in
theorem PySem.Challenge.cw_unbrokenrows_k05_orders_and_runs_holds : PySem.Challenge.rw_unbrokenrows_k05_orders_and_runs.Holds := by
  w_on; o_law; k_head; (case hw => w_witness2)
  k_fill
  refine My.walk (l := PySem.Challenge.rw_unbrokenrows_k05_orders_and_runs) rfl rfl (fun w h Y => PySem.W.kIn_of Y) ?F
  case F =>
    intro w mg fa h KX G hmg
    refine' My.all_mk KX G hmg ?xmg_Table ?xmg_RowsError ?xmg_Unknown ?xmg_Impossible ?xmg_BadOrder ?xmg_UnknownRow ?am_BadOrder_init ?am_UnknownRow_init ?xmg_LONGEST_NAME ?xmg_is_name ?xmg_first_bad_name ?xmg_first_stray ?xmg_order_fault ?xmg_count_runs ?xmg_runs_of ?xmg_check_order ?xmg_run_count ?xmg_broken ?xmg_is_layout ?xmg_extent ?xmg_gap_rows ?xmg_common_rows ?xmg_check_columns ?xmg_check_rows ?am_Table_in_order ?am_Table_init ?am_Table_getitem ?am_Table_len ?am_Table_iter ?xmg_law_cell ?xmg_law_pool ?xmg_law_word ?xmg_law_new ?xmg_law_sequence ?xmg_law_row ?xmg_law_spoiled ?xmg_law_misfit ?xmg_law_is_count ?xmg_law_called ?xmg_law_refused ?xmg_law_no_row ?xmg_law_runs ?xmg_law_row_is ?xmg_law_numbers_are ?xmg_law_gaps_are ?xmg_law_order_is ?xmg_law_list_is ?xmg_law ?if_Table_in_order ?if_Table_init ?if_Table_getitem ?if_Table_len ?if_Table_iter ?l_BadOrder_init ?l_UnknownRow_init ?l_is_name ?l_first_bad_name ?l_first_stray ?l_order_fault ?l_count_runs ?l_runs_of ?l_check_order ?l_run_count ?l_broken ?l_is_layout ?l_extent ?l_gap_rows ?l_common_rows ?l_check_columns ?l_check_rows ?l_Table_in_order ?l_Table_init ?l_Table_getitem ?l_Table_len ?l_Table_iter ?l_law_cell ?l_law_pool ?l_law_word ?l_law_new ?l_law_sequence ?l_law_row ?l_law_spoiled ?l_law_misfit ?l_law_is_count ?l_law_called ?l_law_refused ?l_law_no_row ?l_law_runs ?l_law_row_is ?l_law_numbers_are ?l_law_gaps_are ?l_law_order_is ?l_law_list_is ?l_law ?lx_BadOrder_init ?lq_BadOrder_init ?lx_UnknownRow_init ?lq_UnknownRow_init ?c_BadOrder_init ?c_UnknownRow_init ?c_is_name ?k_is_name ?c_first_bad_name ?k_first_bad_name ?c_first_stray ?k_first_stray ?c_order_fault ?k_order_fault ?c_count_runs ?k_count_runs ?c_runs_of ?k_runs_of ?c_check_order ?k_check_order ?c_run_count ?k_run_count ?c_broken ?k_broken ?c_is_layout ?k_is_layout ?c_extent ?k_extent ?c_gap_rows ?k_gap_rows ?c_common_rows ?k_common_rows ?c_check_columns ?k_check_columns ?c_check_rows ?k_check_rows ?c_Table_in_order ?k_Table_in_order ?c_Table_init ?k_Table_init ?lt_Table_init ?c_Table_getitem ?k_Table_getitem ?c_Table_len ?k_Table_len ?c_Table_iter ?k_Table_iter ?c_law_cell ?k_law_cell ?c_law_pool ?k_law_pool ?c_law_word ?k_law_word ?c_law_new ?k_law_new ?c_law_sequence ?k_law_sequence ?c_law_row ?k_law_row ?c_law_spoiled ?k_law_spoiled ?c_law_misfit ?k_law_misfit ?c_law_is_count ?k_law_is_count ?c_law_called ?k_law_called ?c_law_refused ?k_law_refused ?c_law_no_row ?k_law_no_row ?c_law_runs ?k_law_runs ?c_law_row_is ?k_law_row_is ?c_law_numbers_are ?k_law_numbers_are ?c_law_gaps_are ?k_law_gaps_are ?c_law_order_is ?k_law_order_is ?c_law_list_is ?k_law_list_is ?c_law ?k_law ?pgcl_Table ?hdcl_Table ?pocl_Table ?sacl_Table ?xsf_Table ?kmk_Table ?kkmk_Table ?xc1_Table ?xc3_Table ?xn_Table_columns ?xn_Table_rows ?xc2 ?xc4 ?xtp_RowsError ?xic_RowsError ?xtp_Unknown ?xic_Unknown ?xtp_Impossible ?xic_Impossible ?xtp_BadOrder ?xic_BadOrder ?xtp_UnknownRow ?xic_UnknownRow ?g1SC_BadOrder ?g2SC_BadOrder ?ksSC_BadOrder ?g4SC_BadOrder ?g5SC_BadOrder ?rfSC_BadOrder ?kxSC_BadOrder ?g6SC_BadOrder ?rv_BadOrder_init ?rg_BadOrder_init ?xti_BadOrder ?xxn_BadOrder_index ?xk_BadOrder ?xbp_BadOrder ?xsv_BadOrder ?xss_BadOrder ?xsu_BadOrder_RowsError ?xsu_BadOrder_Unknown ?xsu_BadOrder_Impossible ?xe1_BadOrder ?xe2_BadOrder ?xe3_BadOrder ?xe4_BadOrder ?xe5_BadOrder ?g1SC_UnknownRow ?g2SC_UnknownRow ?ksSC_UnknownRow ?g4SC_UnknownRow ?g5SC_UnknownRow ?rfSC_UnknownRow ?kxSC_UnknownRow ?g6SC_UnknownRow ?rv_UnknownRow_init ?rg_UnknownRow_init ?xti_UnknownRow ?xxn_UnknownRow_number ?xk_UnknownRow ?xbp_UnknownRow ?xsv_UnknownRow ?xss_UnknownRow ?xsu_UnknownRow_RowsError ?xsu_UnknownRow_Unknown ?xsu_UnknownRow_Impossible ?xe1_UnknownRow ?xe2_UnknownRow ?xe3_UnknownRow ?xe4_UnknownRow ?xe5_UnknownRow ?r1cr_Table ?r2cr_Table ?xcv_Table_MOST_COLUMNS ?xcv_Table_MOST_ROWS ?xn_abs ?xn_int ?xn_isinstance ?xn_range ?xn_len ?xn_str ?xn_tuple ?xn_list ?xn_ValueError ?xn_all ?xn_max ?xn_min ?xn_enumerate ?xn_iter ?xn_bool ?xn_sorted
    (case xmg_Table => k_is)
    (case xmg_RowsError => k_is)
    (case xmg_Unknown => k_is)
    (case xmg_Impossible => k_is)
    (case xmg_BadOrder => k_is)
    (case xmg_UnknownRow => k_is)
    (case am_BadOrder_init => k_is)
    (case am_UnknownRow_init => k_is)
    (case xmg_LONGEST_NAME => k_is)
    (case xmg_is_name => k_is)
    (case xmg_first_bad_name => k_is)
    (case xmg_first_stray => k_is)
    (case xmg_order_fault => k_is)
    (case xmg_count_runs => k_is)
    (case xmg_runs_of => k_is)
    (case xmg_check_order => k_is)
    (case xmg_run_count => k_is)
    (case xmg_broken => k_is)
    (case xmg_is_layout => k_is)
    (case xmg_extent => k_is)
    (case xmg_gap_rows => k_is)
    (case xmg_common_rows => k_is)
    (case xmg_check_columns => k_is)
    (case xmg_check_rows => k_is)
    (case am_Table_in_order => k_is)
    (case am_Table_init => k_is)
    (case am_Table_getitem => k_is)
    (case am_Table_len => k_is)
    (case am_Table_iter => k_is)
    (case xmg_law_cell => k_is)
    (case xmg_law_pool => k_is)
    (case xmg_law_word => k_is)
    (case xmg_law_new => k_is)
    (case xmg_law_sequence => k_is)
    (case xmg_law_row => k_is)
    (case xmg_law_spoiled => k_is)
    (case xmg_law_misfit => k_is)
    (case xmg_law_is_count => k_is)
    (case xmg_law_called => k_is)
    (case xmg_law_refused => k_is)
    (case xmg_law_no_row => k_is)
    (case xmg_law_runs => k_is)
    (case xmg_law_row_is => k_is)
    (case xmg_law_numbers_are => k_is)
    (case xmg_law_gaps_are => k_is)
    (case xmg_law_order_is => k_is)
    (case xmg_law_list_is => k_is)
    (case xmg_law => k_is)
    (case if_Table_in_order => k_is)
    (case if_Table_init => k_is)
    (case if_Table_getitem => k_is)
    (case if_Table_len => k_is)
    (case if_Table_iter => k_is)
    (case l_BadOrder_init => k_is)
    (case l_UnknownRow_init => k_is)
    (case l_is_name => k_is)
    (case l_first_bad_name => k_is)
    (case l_first_stray => k_is)
    (case l_order_fault => k_is)
    (case l_count_runs => k_is)
    (case l_runs_of => k_is)
    (case l_check_order => k_is)
    (case l_run_count => k_is)
    (case l_broken => k_is)
    (case l_is_layout => k_is)
    (case l_extent => k_is)
    (case l_gap_rows => k_is)
    (case l_common_rows => k_is)
    (case l_check_columns => k_is)
    (case l_check_rows => k_is)
    (case l_Table_in_order => k_is)
    (case l_Table_init => k_is)
    (case l_Table_getitem => k_is)
    (case l_Table_len => k_is)
    (case l_Table_iter => k_is)
    (case l_law_cell => k_is)
    (case l_law_pool => k_is)
    (case l_law_word => k_is)
    (case l_law_new => k_is)
    (case l_law_sequence => k_is)
    (case l_law_row => k_is)
    (case l_law_spoiled => k_is)
    (case l_law_misfit => k_is)
    (case l_law_is_count => k_is)
    (case l_law_called => k_is)
    (case l_law_refused => k_is)
    (case l_law_no_row => k_is)
    (case l_law_runs => k_is)
    (case l_law_row_is => k_is)
    (case l_law_numbers_are => k_is)
    (case l_law_gaps_are => k_is)
    (case l_law_order_is => k_is)
    (case l_law_list_is => k_is)
    (case l_law => k_is)
    (case lx_BadOrder_init => k_is)
    (case lq_BadOrder_init => k_is)
    (case lx_UnknownRow_init => k_is)
    (case lq_UnknownRow_init => k_is)
    (case c_BadOrder_init => k_is)
    (case c_UnknownRow_init => k_is)
    (case c_is_name => k_is)
    (case k_is_name => k_is)
    (case c_first_bad_name => k_is)
    (case k_first_bad_name => k_is)
    (case c_first_stray => k_is)
    (case k_first_stray => k_is)
    (case c_order_fault => k_is)
    (case k_order_fault => k_is)
    (case c_count_runs => k_is)
    (case k_count_runs => k_is)
    (case c_runs_of => k_is)
    (case k_runs_of => k_is)
    (case c_check_order => k_is)
    (case k_check_order => k_is)
    (case c_run_count => k_is)
    (case k_run_count => k_is)
    (case c_broken => k_is)
    (case k_broken => k_is)
    (case c_is_layout => k_is)
    (case k_is_layout => k_is)
    (case c_extent => k_is)
    (case k_extent => k_is)
    (case c_gap_rows => k_is)
    (case k_gap_rows => k_is)
    (case c_common_rows => k_is)
    (case k_common_rows => k_is)
    (case c_check_columns => k_is)
    (case k_check_columns => k_is)
    (case c_check_rows => k_is)
    (case k_check_rows => k_is)
    (case c_Table_in_order => k_is)
    (case k_Table_in_order => k_is)
    (case c_Table_init => k_is)
    (case k_Table_init => k_is)
    (case lt_Table_init => k_is)
    (case c_Table_getitem => k_is)
    (case k_Table_getitem => k_is)
    (case c_Table_len => k_is)
    (case k_Table_len => k_is)
    (case c_Table_iter => k_is)
    (case k_Table_iter => k_is)
    (case c_law_cell => k_is)
    (case k_law_cell => k_is)
    (case c_law_pool => k_is)
    (case k_law_pool => k_is)
    (case c_law_word => k_is)
    (case k_law_word => k_is)
    (case c_law_new => k_is)
    (case k_law_new => k_is)
    (case c_law_sequence => k_is)
    (case k_law_sequence => k_is)
    (case c_law_row => k_is)
    (case k_law_row => k_is)
    (case c_law_spoiled => k_is)
    (case k_law_spoiled => k_is)
    (case c_law_misfit => k_is)
    (case k_law_misfit => k_is)
    (case c_law_is_count => k_is)
    (case k_law_is_count => k_is)
    (case c_law_called => k_is)
    (case k_law_called => k_is)
    (case c_law_refused => k_is)
    (case k_law_refused => k_is)
    (case c_law_no_row => k_is)
    (case k_law_no_row => k_is)
    (case c_law_runs => k_is)
    (case k_law_runs => k_is)
    (case c_law_row_is => k_is)
    (case k_law_row_is => k_is)
    (case c_law_numbers_are => k_is)
    (case k_law_numbers_are => k_is)
    (case c_law_gaps_are => k_is)
    (case k_law_gaps_are => k_is)
    (case c_law_order_is => k_is)
    (case k_law_order_is => k_is)
    (case c_law_list_is => k_is)
    (case k_law_list_is => k_is)
    (case c_law => k_is)
    (case k_law => k_is)
    (case pgcl_Table => k_is)
    (case hdcl_Table => k_is)
    (case pocl_Table => k_is)
    (case sacl_Table => k_is)
    (case xsf_Table => k_is)
    (case kmk_Table => k_is)
    (case kkmk_Table => k_is)
    (case xc1_Table => k_is)
    (case xc3_Table => k_is)
    (case xn_Table_columns => k_is)
    (case xn_Table_rows => k_is)
    (case xc2 => k_is)
    (case xc4 => k_is)
    (case xtp_RowsError => k_is)
    (case xic_RowsError => k_is)
    (case xtp_Unknown => k_is)
    (case xic_Unknown => k_is)
    (case xtp_Impossible => k_is)
    (case xic_Impossible => k_is)
    (case xtp_BadOrder => k_is)
    (case xic_BadOrder => k_is)
    (case xtp_UnknownRow => k_is)
    (case xic_UnknownRow => k_is)
    (case g1SC_BadOrder => k_is)
    (case g2SC_BadOrder => k_is)
    (case ksSC_BadOrder => ks_is)
    (case g4SC_BadOrder => k_is)
    (case g5SC_BadOrder => k_is)
    (case rfSC_BadOrder => first | rfl | decide +kernel)
    (case kxSC_BadOrder => kx_is)
    (case g6SC_BadOrder => k_is)
    (case rv_BadOrder_init => first | rfl | decide +kernel)
    (case rg_BadOrder_init => first | rfl | decide +kernel)
    (case xti_BadOrder => k_is)
    (case xxn_BadOrder_index => k_is)
    (case xk_BadOrder => k_is)
    (case xbp_BadOrder => k_is)
    (case xsv_BadOrder => k_is)
    (case xss_BadOrder => k_is)
    (case xsu_BadOrder_RowsError => k_is)
    (case xsu_BadOrder_Unknown => k_is)
    (case xsu_BadOrder_Impossible => k_is)
    (case xe1_BadOrder => k_is)
    (case xe2_BadOrder => k_is)
    (case xe3_BadOrder => k_is)
    (case xe4_BadOrder => k_is)
    (case xe5_BadOrder => k_is)
    (case g1SC_UnknownRow => k_is)
    (case g2SC_UnknownRow => k_is)
    (case ksSC_UnknownRow => ks_is)
    (case g4SC_UnknownRow => k_is)
    (case g5SC_UnknownRow => k_is)
    (case rfSC_UnknownRow => first | rfl | decide +kernel)
    (case kxSC_UnknownRow => kx_is)
    (case g6SC_UnknownRow => k_is)
    (case rv_UnknownRow_init => first | rfl | decide +kernel)
    (case rg_UnknownRow_init => first | rfl | decide +kernel)
    (case xti_UnknownRow => k_is)
    (case xxn_UnknownRow_number => k_is)
    (case xk_UnknownRow => k_is)
    (case xbp_UnknownRow => k_is)
    (case xsv_UnknownRow => k_is)
    (case xss_UnknownRow => k_is)
    (case xsu_UnknownRow_RowsError => k_is)
    (case xsu_UnknownRow_Unknown => k_is)
    (case xsu_UnknownRow_Impossible => k_is)
    (case xe1_UnknownRow => k_is)
    (case xe2_UnknownRow => k_is)
    (case xe3_UnknownRow => k_is)
    (case xe4_UnknownRow => k_is)
    (case xe5_UnknownRow => k_is)
    (case r1cr_Table => k_is)
    (case r2cr_Table => k_is)
    (case xcv_Table_MOST_COLUMNS => k_is)
    (case xcv_Table_MOST_ROWS => k_is)
    (case xn_abs => k_is)
    (case xn_int => k_is)
    (case xn_isinstance => k_is)
    (case xn_range => k_is)
    (case xn_len => k_is)
    (case xn_str => k_is)
    (case xn_tuple => k_is)
    (case xn_list => k_is)
    (case xn_ValueError => k_is)
    (case xn_all => k_is)
    (case xn_max => k_is)
    (case xn_min => k_is)
    (case xn_enumerate => k_is)
    (case xn_iter => k_is)
    (case xn_bool => k_is)
    (case xn_sorted => k_is)
#print axioms PySem.Challenge.cw_unbrokenrows_k05_orders_and_runs_holds
