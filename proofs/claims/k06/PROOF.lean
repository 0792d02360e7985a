import PyProof.Rows.All
import Wide.All
import OpenK.AllK
import Wide.FinOn
import HandS.Base
import HandS.Call
import HandS.List
import HandS.OwnEq
import HandS.Ends
import HandS.ClsMeth
import HandS.ExcOwn
import HandS.ExcIs
import HandS.TryOnly
import KE.KExcSuper
import HandS.ExcInit
import HandS.ExcField
import HandS.Words
import HandS.SortKw
import HandS.IterNext
import KE.DataMinMax
import KE.KExcIs
import KE.KExcLine
import HandS.OwnIter
import HandS.Walk
import KE.GoesMore
import HandS.ForMost
import HandS.Wide
import HandS.IsInst
import HandS.Defaults
import HandS.FStr
import HandS.Style
import HandS.StrMore
import HandS.Replace
import HandS.Text
import HandS.Codes
import HandS.WordsExc
import PyProof.StrBlock2
import PySem.Challenge.RW_unbrokenrows_k06_grids
set_option Elab.async false
set_option linter.all false
set_option maxRecDepth 100000
namespace My
open PySem PySem.Spec PyProof.Rows L2
section
variable {X : Cx} {CX : CXT} {n : Nat} {f C : Addr} {fd : FuncData} {ps : List Str} {sp : Sp} {E : XK}
/-- a promise, called anywhere in the running body -/
theorem call_at (G0 : FnOk X.prog X.w X.K X.mg X.base CX n f fd ps sp) (hb : Binds X.K fd ps []) (hx : Passes CX X E) {A : Around} (hr : Room n A) (hA : A.frames = X.A.frames)
    {pins : List (Addr × Obj)} {s : Shared} {σ : L2.St} {H : Hp} (I : Inv X pins σ H s) {vs : List V} {us : List Value} (r : Vals vs us) {Q : VK} (h : sp vs H Q E) :
    wpAny (model X.prog X.w) A (call (.ref f) us) (EP X pins σ Q) X.xe s := by
  have e0 : Env0 X.prog X.w X.K X.mg X.base A X.stack s H := by
    have e := I.env0
    exact ⟨by rw [hA]; exact e.frames, e.mod, e.bs, e.bsz, e.funs, e.frf, e.hok, e.bare⟩
  have hl := G0.len _ _ _ _ h
  refine wpAny_call (codeAny_mono (G0.run A X.stack s H ⟨us, []⟩ us vs Q E hr e0 (by
    have := hb s us I.kIn (by rw [List.append_nil, ← r.length]; exact hl)
    simpa using this) r h) fun r s' hq => ?_)
  cases r with
  | error e => exact hx pins σ H s e s' I hq
  | ok fl =>
    cases fl with
    | ret w => exact I.after hq
    | next => exact False.elim hq
    | brk => exact False.elim hq
    | cont => exact False.elim hq
theorem relV_noNI {v : V} {u : Value} (r : RelV v u) : u ≠ .notImplemented := by
  intro e
  subst e
  cases v <;> first | (cases r; done) | (obtain ⟨_, z⟩ := r; cases z)
theorem cmpBack_of {pins : List (Addr × Obj)} {σ : L2.St} {Q : VK} {v : Value} {s : Shared} (h : EP X pins σ Q v s) : PySem.W.CmpBack (EP X pins σ Q) v s := by
  obtain ⟨x, H', I', r, q⟩ := id h
  cases v <;> first | exact h | exact absurd rfl (relV_noNI r)
/-- x op y, both instances of the class at C, by its own method -/
def rOwn2 (C : Addr) (sp : Sp) (E : XK) : R2 := fun x y H Q => ∃ a b dx dy fs gs, x = .ref a ∧ y = .ref b ∧ H a = some (.ins C dx fs) ∧ H b = some (.ins C dy gs) ∧ sp [.ref a, .ref b] H Q E
theorem op_own2 {op : Operator} (G0 : FnOk X.prog X.w X.K X.mg X.base CX n f fd ps sp) (hb : Binds X.K fd ps []) (hx : Passes CX X E) (hr : Room n X.A)
    (hs : PySem.W.findIn X.K (.ref C) (PySem.dunder op.info.2) = some (some (.ref f))) (hf : PySem.W.isFn X.K (.ref f) = true) (hc : PySem.W.selfFirst X.K C = true) : OpR X (binaryOp op) (rOwn2 C sp E) := by
  intro pins s σ H x y v u Q I rx ry h
  obtain ⟨a, b, dx, dy, fs, gs, rfl, rfl, ha, hb', q⟩ := h
  cases rx
  cases ry
  obtain ⟨mA, J, _⟩ := ins_get I.hok ha
  obtain ⟨mB, J', _⟩ := ins_get I.hok hb'
  obtain ⟨od, J, _⟩ := J.look
  obtain ⟨od', J', _⟩ := J'.look
  obtain ⟨m, hF⟩ := I.fr
  refine PySem.W.binop_K hF I.ok.mod.kin J J'.type hc hs hf ?_
  exact wpAny_mono (call_at G0 hb hx hr rfl I (vs := [.ref a, .ref b]) (.cons rfl (.cons rfl .nil)) q) (fun v s' z => cmpBack_of z) fun _ _ z => z
/-- x op k, x such an instance, k a whole number -/
def rOwnI (C : Addr) (sp : Sp) (E : XK) : R2 := fun x y H Q => ∃ a dx fs k, x = .ref a ∧ y = .int k ∧ H a = some (.ins C dx fs) ∧ sp [.ref a, .int k] H Q E
theorem op_ownI {op : Operator} {fo ro rc : Option Value} (G0 : FnOk X.prog X.w X.K X.mg X.base CX n f fd ps sp) (hb : Binds X.K fd ps []) (hx : Passes CX X E) (hr : Room n X.A)
    (hs : PySem.W.findIn X.K (.ref C) (PySem.dunder op.info.2) = some (some (.ref f))) (hf : PySem.W.isFn X.K (.ref f) = true) (hc : PySem.W.selfFirst X.K C = true)
    (hrr : PySem.W.findIn X.K (.ref C) (dunderR op.info.2) = some rc) (hp : rc = none ∨ ∃ g : Addr, rc = some (.ref g))
    (h1 : PySem.W.findIn X.K (.type "int") (PySem.dunder op.info.2) = some fo) (h2 : PySem.W.findIn X.K (.type "int") (dunderR op.info.2) = some ro) (hsub : PySem.W.subIn X.K (.type "int") (.ref C) = some false) :
    OpR X (binaryOp op) (rOwnI C sp E) := by
  intro pins s σ H x y v u Q I rx ry h
  obtain ⟨a, dx, fs, k, rfl, rfl, ha, q⟩ := h
  cases rx
  obtain ⟨t, rfl⟩ := ry
  obtain ⟨mA, J, _⟩ := ins_get I.hok ha
  obtain ⟨od, J, _⟩ := J.look
  obtain ⟨m, hF⟩ := I.fr
  refine PySem.W.ksp_binT (T := "int") hF I.ok.mod.kin J rfl hc hs hf hrr hp h1 h2 hsub ?_
  exact wpAny_mono (call_at G0 hb hx hr rfl I (vs := [.ref a, .int k]) (.cons rfl (.cons ⟨_, rfl⟩ .nil)) q) (fun v s' z => cmpBack_of z) fun _ _ z => z
/-- one-place operators of such an instance -/
def rOwn1 (C : Addr) (sp : Sp) (E : XK) : V → Hp → VK → Prop := fun x H Q => ∃ a dx fs, x = .ref a ∧ H a = some (.ins C dx fs) ∧ sp [.ref a] H Q E
theorem un_own (G0 : FnOk X.prog X.w X.K X.mg X.base CX n f fd ps sp) (hb : Binds X.K fd ps []) (hx : Passes CX X E) (hr : Room n X.A)
    (hs : PySem.W.findIn X.K (.ref C) "__neg__" = some (some (.ref f))) (hf : PySem.W.isFn X.K (.ref f) = true) : UnR X (unaryOp .USub) (rOwn1 C sp E) := by
  intro pins s σ H x v Q I rx h
  obtain ⟨a, dx, fs, rfl, ha, q⟩ := h
  cases rx
  obtain ⟨mA, J, _⟩ := ins_get I.hok ha
  obtain ⟨od, J, _⟩ := J.look
  obtain ⟨m, hF⟩ := I.fr
  exact PySem.W.ksp_neg hF I.ok.mod.kin J hs hf (call_at G0 hb hx hr rfl I (vs := [.ref a]) (.cons rfl .nil) q)
/-- abs(x), bool(x) of such an instance -/
theorem call_absOwn (G0 : FnOk X.prog X.w X.K X.mg X.base CX n f fd ps sp) (hb : Binds X.K fd ps []) (hx : Passes CX X E) (hr : Room (n + 1) X.A)
    (hs : PySem.W.findIn X.K (.ref C) "__abs__" = some (some (.ref f))) (hf : PySem.W.isFn X.K (.ref f) = true) :
    CallR X (.builtin "abs") (fun xs H Q => ∃ a dx fs, xs = [V.ref a] ∧ H a = some (.ins C dx fs) ∧ sp [.ref a] H Q E) := by
  intro pins s σ H xs us Q I r h
  obtain ⟨a, dx, fs, rfl, ha, q⟩ := h
  obtain ⟨u, rfl, r1⟩ := vals1 r
  cases r1
  obtain ⟨mA, J, _⟩ := ins_get I.hok ha
  obtain ⟨od, J, _⟩ := J.look
  refine PySem.Calls.call_function_entry kind_abs plain_abs entry_abs (args_abs _) ?_
  unfold Builtin.«abs»
  refine wpAny_bind (m := oneArg "abs" _) (wpAny_pure ?_)
  refine wpAny_bind (m := callSpecial? (.ref a) (Str.ofString "__abs__")) (PySem.W.special_fn I.kIn J hs (beq_iff_eq.mp hf) ?_)
  refine wpAny_mono (call_at G0 hb hx (A := X.A.in1) hr.in1 rfl I (vs := [.ref a]) (.cons rfl .nil) q) (fun v s' z => ?_) fun _ _ z => z
  exact wpAny_pure ⟨_, rfl, z⟩
theorem meets_bool_own (prog : Program) (w : World) (l : Addr) : MeetsIn prog w (Builtin.«bool.__new__» ⟨[.type "bool", .ref l], []⟩)
    (fun A R s => wpAny (model prog w) A.in1 (truthy (.ref l)) (fun b s' => R (.ok (.ret (.bool b))) s') (fun e s' => R (.error e) s') s) := by
  intro A R s hs
  have f1 := F.conv_sub_bool
  unfold Builtin.«bool.__new__»
  dsimp only
  repeat (any_goals (first | assumption | (with_reducible refine wpAny_mono hs (fun b s' z => ?_) (fun _ _ z => z)) | wp_step))
  all_goals first | exact z | skip
theorem call_boolOwn (G0 : FnOk X.prog X.w X.K X.mg X.base CX n f fd ps sp) (hb : Binds X.K fd ps []) (hx : Passes CX X E) (hr : Room (n + 2) X.A)
    (hs : PySem.W.findIn X.K (.ref C) "__bool__" = some (some (.ref f))) (hf : PySem.W.isFn X.K (.ref f) = true) :
    CallR X (.type "bool") (fun xs H Q => ∃ a dx fs, xs = [V.ref a] ∧ H a = some (.ins C dx fs) ∧ sp [.ref a] H (fun v H' => ∃ k, v = .bl k ∧ Q v H') E) := by
  intro pins s σ H xs us Q I r h
  obtain ⟨a, dx, fs, rfl, ha, q⟩ := h
  obtain ⟨u, rfl, r1⟩ := vals1 r
  cases r1
  obtain ⟨mA, J, _⟩ := ins_get I.hok ha
  obtain ⟨od, J, _⟩ := J.look
  obtain ⟨m, hF⟩ := I.fr
  refine callType_newIn F.called_bool F.newNe_bool (F.typeCall_bool_1 _) (F.newCall_bool_1 _) (fun obj => F.args_object_init_2 obj _) F.entry_bool_new (meets_bool_own X.prog X.w a) ?_
  refine PySem.W.truthy_K hF I.ok.mod.kin J hs hf ?_
  refine wpAny_mono (call_at G0 hb hx (A := X.A.in1.in1) hr.in1.in1 rfl I (vs := [.ref a]) (.cons rfl .nil) q) (fun v s' z => ?_) fun _ _ z => z
  obtain ⟨x, H', I', r, k, rfl, q'⟩ := z
  cases r
  exact ⟨PySem.typeIs_bool _ _, .bl k, H', I', rfl, q'⟩
/-- == of two such instances -/
def rOwnEq (C : Addr) (sp : Sp) (E : XK) : R2 := fun x y H Q => ∃ a b dx dy fs gs, x = .ref a ∧ y = .ref b ∧ H a = some (.ins C dx fs) ∧ H b = some (.ins C dy gs) ∧ sp [.ref a, .ref b] H Q E
theorem op_eqOwn (G0 : FnOk X.prog X.w X.K X.mg X.base CX n f fd ps sp) (hb : Binds X.K fd ps []) (hx : Passes CX X E) (hr : Room n X.A)
    (hs : PySem.W.findIn X.K (.ref C) "__eq__" = some (some (.ref f))) (hf : PySem.W.isFn X.K (.ref f) = true) : OpR X (compareOp .Eq) (rOwnEq C sp E) := by
  intro pins s σ H x y v u Q I rx ry h
  obtain ⟨a, b, dx, dy, fs, gs, rfl, rfl, ha, hb', q⟩ := h
  cases rx
  cases ry
  obtain ⟨mA, J, _⟩ := ins_get I.hok ha
  obtain ⟨mB, J', _⟩ := ins_get I.hok hb'
  obtain ⟨od, J, _⟩ := J.look
  obtain ⟨od', J', _⟩ := J'.look
  obtain ⟨m, hF⟩ := I.fr
  show wpAny (model X.prog X.w) X.A (richCompare .Eq (.ref a) (.ref b)) (EP X pins σ Q) X.xe s
  refine PySem.W.cmp_K (op := .Eq) (tb := .ref C) hr.units0 hF I.ok.mod.kin J J'.type (by simp [PySem.W.notFirst]) hs hf ?_
  exact wpAny_mono (call_at G0 hb hx hr rfl I (vs := [.ref a, .ref b]) (.cons rfl (.cons rfl .nil)) q) (fun v s' z => cmpBack_of z) fun _ _ z => z
end
end My
set_option maxRecDepth 100000
namespace My
open PySem PySem.Spec PyProof.Rows L2
open ClX (CRead)
section
variable {X : Cx} {CX : CXT} {n k : Nat} {f C : Addr} {fd : FuncData} {ps : List Str} {sp : Sp} {E : XK}
/-- str(x) of an instance with its own __str__ -/
theorem call_strOwn (G0 : FnOk X.prog X.w X.K X.mg X.base CX n f fd ps sp) (hb : Binds X.K fd ps []) (hx : Passes CX X E) (hr : Room (n + 2) X.A)
    (hs : PySem.W.findIn X.K (.ref C) "__str__" = some (some (.ref f))) (hf : PySem.W.isFn X.K (.ref f) = true) :
    CallR X (.type "str") (fun xs H Q => ∃ a dx fs, xs = [V.ref a] ∧ H a = some (.ins C dx fs) ∧ sp [.ref a] H (fun v H' => ∃ z, v = .str z ∧ Q v H') E) := by
  intro pins s σ H xs us Q I r h
  obtain ⟨a, dx, fs, rfl, ha, q⟩ := h
  obtain ⟨u, rfl, r1⟩ := vals1 r
  cases r1
  obtain ⟨mA, J, _⟩ := ins_get I.hok ha
  obtain ⟨od, J, _⟩ := J.look
  refine PySem.W.kso_call (hr.in1.in1.units0) I.kIn J hs hf ?_
  refine wpAny_mono (call_at G0 hb hx (A := X.A.in1.in1) hr.in1.in1 rfl I (vs := [.ref a]) (.cons rfl .nil) q) (fun v s' z => ?_) fun _ _ z => z
  obtain ⟨x, H', I', r, y, rfl, q'⟩ := z
  obtain ⟨t, rfl⟩ := r
  exact ⟨.str y, H', I', ⟨_, rfl⟩, q'⟩
/-- C.m is a staticmethod: its record at p, its def at g -/
structure SMet (K : PySem.W.Frag) (C : Addr) (mc : Value) (m : Str) (p g : Addr) : Prop where
  at_ : PySem.W.findCls K (.ref C) mc m = some (.get (.builtin "staticmethod.__get__") (.ref p) .none (.ref C))
  rc : ∃ rest, PySem.W.recIn K p "staticmethod" = some (.ref g :: rest)
  kp : PySem.W.keepIn K (.ref g) = true
theorem getmethsm_ok {pins : List (Addr × Obj)} {σ : L2.St} {H : Hp} {s : Shared} {p g : Addr} {mc : Value} {m : Str} {A : Around} {E : Value → Shared → Prop} {pl : Sem Bool} {Q : Value × List Value → Shared → Prop} (I : Inv X pins σ H s) (r : CRead X.K C mc) (k : SMet X.K C mc m p g)
    (h : ∀ s', Inv X pins σ H s' → Q (.ref g, []) s') : wpAny (model X.prog X.w) A (getMethod (.ref C) m pl) Q E s := by
  refine PySem.W.method_cls I.kIn r.ga ?_
  obtain ⟨rest, hp⟩ := k.rc
  refine PySem.W.cls_bind I.kIn r.rd k.at_ ?_
  refine wpAny_call (PySem.W.sm_get (s := { s with toks := s.toks + 1 }) I.kIn hp (PySem.W.handed_on rfl ?_))
  exact h _ (I.tok _)
/-- C.m(e, ..), m a staticmethod of the class at C -/
def tSMeth (C : Addr) (sp : Sp) (dvs : List V) (E : XK) (ta : TE) (t : TA) : TE := fun σ H Q => ta σ H fun x H1 => x = .ref C ∧ t σ H1 fun vs H2 => sp (vs ++ dvs) H2 Q E
theorem pe_smeth {o e : Expr} {es : List Expr} {p g : Addr} {mc : Value} {m : Str} {pos apos : Pos} {ta : TE} {t : TA} {pl : Sem Bool} {ds : List Value} {dvs : List V} (he : PE X o ta) (r : CRead X.K C mc) (c : SMet X.K C mc m p g)
    (G0 : FnOk X.prog X.w X.K X.mg X.base CX k g fd ps sp) (hr : Room k X.A) (hb : Binds X.K fd ps ds) (hd : Vals dvs ds) (hx : Passes CX X E) (ha : PA X (e :: es) t)
    (hst : starEach (e :: es) X.env = (false, eval e X.env) :: starEach es X.env := by rfl) (hpl : (backTo pos (starEach es X.env)).any (·.1) = false := by rfl)
    (ht : eval (.Call (.Attribute o m apos) (e :: es) [] pos) X.env = (do
      let ov ← eval o X.env
      standAt apos.atName
      let (f, first) ← holding [ov] (getMethod ov m pl)
      callWith pos f first (backTo pos (starEach (e :: es) X.env)) (backToKw pos (keywordEach [] X.env))) := by rfl) :
    PE X (.Call (.Attribute o m apos) (e :: es) [] pos) (tSMeth C sp dvs E ta t) := by
  refine ⟨fun pins s σ H Q I h => ?_⟩
  refine PySem.W.methodCall_KW (pl := pl) (thn (he.run pins s σ H _ I h) fun u s1 ⟨x, H1, I1, rx, ex, q⟩ => ?_) ht
  subst ex
  obtain rfl : u = Value.ref C := rx
  refine getmethsm_ok I1 r c fun s2 I2 => ?_
  refine PySem.W.callWith_K (h₀ := X.base) I2.ok.mod.kin c.kp (thn (ha.run pos pins s2 σ H1 _ I2 q) fun us s3 ⟨vs, H2, I3, r3, q3⟩ => ⟨I3.kIn, ?_⟩) hst hpl
  exact run_fn G0 hr hb hd hx I3 r3 q3
/-- C(e, ..) where what its __init__ raises is wished for -/
def tMakeS (C : Addr) (sp : Sp) (E : L2.St → XK) (t : TA) : TE := fun σ H Q => t σ H fun vs H1 => ∀ x dx, H1 x = none → H1 dx = none → dx ≠ x →
  sp (.ref x :: vs) (upd (upd H1 dx (.own x)) x (.ins C dx [])) (fun v H2 => v = .non ∧ Q (.ref x) H2) (E σ)
theorem run_makeS {E : L2.St → XK} {pins : List (Addr × Obj)} {σ : L2.St} {H : Hp} {s : Shared} {Q : VK} {us : List Value} {vs : List V} (M : Mk X.K C f) (G0 : FnOk X.prog X.w X.K X.mg X.base CX k f fd ps sp) (hr : Room (k + 1) X.A) (hb : Binds X.K fd ps [])
    (hx : PassesAt CX X σ (E σ)) (I : Inv X pins σ H s) (r : Vals vs us)
    (h : ∀ x dx, H x = none → H dx = none → dx ≠ x → sp (.ref x :: vs) (upd (upd H dx (.own x)) x (.ins C dx [])) (fun v H2 => v = .non ∧ Q (.ref x) H2) (E σ)) :
    wpAny (model X.prog X.w) X.A (call (.ref C) us) (EP X pins σ Q) X.xe s := by
  have hq := h (s.heap.objs.size + 1) s.heap.objs.size (I.hok.fresh (Nat.le_succ _)) (I.hok.fresh (Nat.le_refl _)) (Nat.ne_of_lt (Nat.lt_succ_self _))
  have I2 := Inv.made (C := C) I
  have r2 : Vals (V.ref (s.heap.objs.size + 1) :: vs) (Value.ref (s.heap.objs.size + 1) :: us) := .cons rfl r
  have hl : (Value.ref (s.heap.objs.size + 1) :: us).length = ps.length := by
    have e := r2.length
    rw [G0.len _ _ _ _ hq] at e
    exact e.symm
  have b := hb _ (Value.ref (s.heap.objs.size + 1) :: us) I2.kIn (by rw [List.append_nil]; exact hl)
  rw [List.append_nil] at b
  refine wpAny_call (make_map (f := f) I.kIn M.makes M.init (beq_iff_eq.mp M.fn) (codeAny_mono (G0.run _ X.stack _ _ ⟨Value.ref (s.heap.objs.size + 1) :: us, []⟩ (Value.ref (s.heap.objs.size + 1) :: us) _ _ (E σ) (hr.make C us [])
    (I2.env0.make C us []) b r2 hq) fun r s' hq' => ?_))
  cases r with
  | error e => exact hx pins _ _ e s' I2 hq'
  | ok fl =>
    cases fl with
    | ret u =>
      obtain ⟨v, H', I3, rv, ev, q3⟩ := I2.after hq'
      subst ev
      exact ⟨rv, ⟨V.ref (s.heap.objs.size + 1), H', I3, rfl, q3⟩⟩
    | next => exact False.elim hq'
    | brk => exact False.elim hq'
    | cont => exact False.elim hq'
theorem pe_makeS {E : L2.St → XK} {x : Str} {p pos : Pos} {e : Expr} {es : List Expr} {t : TA} (M : Mk X.K C f) (G0 : FnOk X.prog X.w X.K X.mg X.base CX k f fd ps sp) (hr : Room (k + 1) X.A) (hg : Gl X x) (hm : X.mg x = some (.ref C)) (hb : Binds X.K fd ps []) (hx : ∀ σ, PassesAt CX X σ (E σ))
    (ha : PA X (e :: es) t) (hdb : (x == ("__debug__" : Str)) = false := by decide) (he : starEach (e :: es) X.env = (false, eval e X.env) :: starEach es X.env := by rfl) (hpl : (backTo pos (starEach es X.env)).any (·.1) = false := by rfl) :
    PE X (.Call (.Name x p) (e :: es) [] pos) (tMakeS C sp E t) := by
  refine ⟨fun pins s σ H Q I h => ?_⟩
  refine wpAny_Call_Name_kw (ld_glob I hg hm ?_ hdb)
  refine PySem.W.callWith_K (h₀ := X.base) I.ok.mod.kin M.kp (thn (ha.run pos pins s σ H _ I h) fun us s1 ⟨vs, H1, I1, r, q⟩ => ⟨I1.kIn, ?_⟩) he hpl
  exact run_makeS M G0 hr hb (hx σ) I1 r q
end
/-- isinstance(e, c) in an except suite of any error -/
theorem call_isEx {X : Cx} {a : Addr} {oe : Obj} {cls : Value} {d : Option Addr} {pn : List (Addr × Obj)} (hz : Zc cls d oe) (hf : ∃ vs, oe.data = .fields vs) :
    CallR (X.suite a ((a, oe) :: pn)) (.builtin "isinstance") (fun xs H Q => ∃ D, cls = .ref D ∧ d = none ∧ ExcC X.K D ∧ rIsE X.K D a xs H Q) := by
  intro pins s σ H xs us Q I r h
  obtain ⟨D, rfl, rfl, c, q⟩ := h
  exact call_isE c hz hf pins s σ H xs us Q I r q
/-- an own class against an own class, against a built-in one -/
theorem kit_own {K : PySem.W.Frag} {C D : Addr} {b : Bool} (hi : PySem.W.isClsIn K D = true) (ht : PySem.W.typeIn K (.ref D) = some (.type "type")) (hs : PySem.W.subIn K (.ref C) (.ref D) = some b) (hne : C ≠ D ∨ b = true) : PySem.W.kitOne K (.ref C) (.ref D) = some b := by
  unfold PySem.W.kitOne
  by_cases e : C = D
  · rcases hne with h | h
    · exact absurd e h
    · rw [if_pos (by rw [e]; simp), h]
  · rw [if_neg (by simp [e])]
    show (if ((PySem.W.clsIn K D).isSome && PySem.W.typeIn K (.ref D) == some (.type "type")) = true then _ else _) = _
    rw [if_pos (by
      rw [ht]
      have : (PySem.W.clsIn K D).isSome = true := hi
      rw [this]; simp)]
    exact hs
theorem kit_ownT {K : PySem.W.Frag} {C : Addr} {T : String} {b : Bool} (hm : PySem.W.kitMeta T = true) (hs : PySem.W.subIn K (.ref C) (.type T) = some b) : PySem.W.kitOne K (.ref C) (.type T) = some b := by
  unfold PySem.W.kitOne PySem.W.kitCls
  rw [if_neg (by simp)]
  show (if PySem.W.kitMeta T = true then _ else _) = _
  rw [if_pos hm]
  exact hs
end My
set_option maxRecDepth 100000
set_option maxHeartbeats 1000000
/-! own exceptions whose __init__ says super().__init__(text) and then stores its fields -/
namespace My
open PySem PySem.Spec PyProof.Rows L2
/-- the names of such a def: its parameters are local, nothing is a cell, __class__ alone is free -/
structure SupScope (N ps : List Str) (sc : Scope) : Prop where
  kind : sc.kind = .function
  co : sc.isCoroutine = false
  gen : sc.isGenerator = false
  nd : ps.Nodup
  eqN : N = ps
  par : ∀ x ∈ ps, sc.names.lookup x = some .local
  nocell : ∀ y ∈ sc.names, y.2 ≠ .cell
  free : ∀ y ∈ sc.names, y.2 = .free → y.1 = "__class__"
  ks : sc.names.lookup ("super" : Str) = some .globalImplicit
  kc : sc.names.lookup ("__class__" : Str) = some .free
/-- the context of its body -/
def cxSup (CX : CXT) (P : Program) (w : World) (K : PySem.W.Frag) (mg : Str → Option Value) (base : Heap) (N : List Str) (qual : Str) (scope : Scope) (f : Addr) (cd : Value) (cc : Addr) (A : Around) (outer : List Env) (s : Shared) (H : Hp) (E : XK) : Cx where
  prog := P
  w := w
  K := K
  mg := mg
  base := base
  A := A.deeper (PySem.W.ksEnv qual scope s.heap.objs.size f cd cc)
  N := N
  s_0 := s
  H_0 := H
  env := PySem.W.ksEnv qual scope s.heap.objs.size f cd cc
  outer := outer
  stack := PySem.W.ksEnv qual scope s.heap.objs.size f cd cc :: outer
  ex := []
  calm := true
  fn := fun _ => false
  pn := []
  xe := fun e s' => wpAny (model P w) (A.deeper (PySem.W.ksEnv qual scope s.heap.objs.size f cd cc)) (leaving (PySem.W.ksEnv qual scope s.heap.objs.size f cd cc) e) (fun _ s'' => CX outer H s E e s'') (fun e' s'' => CX outer H s E e' s'') s'
theorem lookup_of_mem {l : List (Str × Value)} {y : Str} {u : Value} (nd : (l.map (·.1)).Nodup) (h : (y, u) ∈ l) : l.lookup y = some u := by
  induction l with
  | nil => cases h
  | cons p r ih =>
    obtain ⟨z, v⟩ := p
    rw [List.map_cons, List.nodup_cons] at nd
    rcases List.mem_cons.mp h with e | e
    · cases e; simp [List.lookup]
    · have hne : y ≠ z := fun q => nd.1 (by rw [← q]; exact List.mem_map.mpr ⟨_, e, rfl⟩)
      have : (y == z) = false := by simpa using hne
      simp only [List.lookup, this]
      exact ih nd.2 e
theorem map_fst_zip_sub : ∀ (ps : List Str) (us : List Value), ((ps.zip us).map (·.1)).Sublist ps
  | [], _ => by simp
  | _ :: _, [] => by simp
  | p :: ps, u :: us => by simpa using map_fst_zip_sub ps us
theorem nd_rev {l : List Str} (h : l.Nodup) : l.reverse.Nodup := by
  induction l with
  | nil => simp
  | cons a t ih =>
    rw [List.nodup_cons] at h
    rw [List.reverse_cons, List.nodup_append]
    exact ⟨ih h.2, by simp, fun x hx y hy e => h.1 (by simp at hy; rw [← hy, ← e]; simpa using hx)⟩
theorem zip_lookup {ps : List Str} {us : List Value} {i : Nat} {y : Str} {u : Value} (nd : ps.Nodup) (h1 : ps[i]? = some y) (h2 : us[i]? = some u) : (ps.zip us).reverse.lookup y = some u := by
  refine lookup_of_mem ?_ ?_
  · rw [List.map_reverse]
    have : ((ps.zip us).map (·.1)).Nodup := by
      exact nd.sublist (map_fst_zip_sub ps us)
    exact nd_rev this
  · rw [List.mem_reverse]
    have : (ps.zip us)[i]? = some (y, u) := by rw [List.getElem?_zip_eq_some]; exact ⟨h1, h2⟩
    exact List.mem_of_getElem? this
section
variable {CX : CXT} {P : Program} {w : World} {K : PySem.W.Frag} {mg : Str → Option Value} {base : Heap} {N ps : List Str} {qual : Str} {scope : Scope} {f cc : Addr} {cd : Value} {A : Around} {outer : List Env} {s : Shared} {H : Hp} {E : XK}
theorem env_cells {x : Str} {c : Addr} {L : Addr} (h : (PySem.W.ksEnv qual scope L f cd cc).cells.lookup x = some c) : x = "__class__" ∧ c = cc := by
  have h' : ([(("__class__" : Str), cc)] : List (Str × Addr)).lookup x = some c := h
  by_cases e : x = "__class__"
  · subst e
    simp [List.lookup] at h'
    exact ⟨rfl, h'.symm⟩
  · have : (x == ("__class__" : Str)) = false := by simpa using e
    simp [List.lookup, this] at h'
theorem inv_sup {us : List Value} {vs : List V} {h1 : Heap} {t : Nat} {cl : Value} {cld : Option Addr} {cv : Option Value} {csl : Array (Option Value)} (S : SupScope N ps scope) (hd : A.handled = none) (e0 : Env0 P w K mg base A outer s H) (hl : vs.length = ps.length) (r : Vals vs us)
    (hcell : K.lookup cc = some ⟨cl, cld, .cell cv, csl⟩)
    (hns : h1.Ns s.heap.objs.size (fun x => (ps.zip us).reverse.lookup x)) (hk : ∀ b o, s.heap.get? b = some o → h1.get? b = some o) :
    Inv (cxSup CX P w K mg base N qual scope f cd cc A outer s H E) [] (L2.start N vs) H { s with heap := h1, toks := t } := by
  have noA : ∀ b : Addr, b ∉ (cxSup CX P w K mg base N qual scope f cd cc A outer s H E).ex := fun b z => absurd (show b ∈ ([] : List Addr) from z) (by simp)
  have hcb := e0.mod.kin _ _ hcell
  refine ⟨⟨e0.mod, S.kind, rfl, rfl, Nat.le_refl _, fun y z c h1 h2 => (env_cells h1).1.trans (env_cells h2).1.symm, fun y hy => ?_, fun y c h _ => absurd h Bool.false_ne_true, fun _ => hd, Around.frames_deeper e0.frames, .inr ⟨rfl, rfl⟩, fun b z => absurd z (noA b), e0.bs, e0.bsz, fun b _ _ => noA b, fun b z => absurd z (noA b), e0.funs, e0.frf⟩,
    rfl, e0.bare, Un.kept hk, ⟨_, hns, fun i y v h1 h2 h3 => ?_⟩, fun y c h => ?_, e0.hok.fresh (Nat.le_refl _), fun y c h => ?_, fun p hp => absurd (show p ∈ ([] : List (Addr × Obj)) from hp) (by simp), e0.hok.kept hk, ?_⟩
  · have hy : scope.names.lookup y = some .cell ∨ scope.names.lookup y = some .free := hy
    rcases hy with hy | hy
    · exact absurd rfl (S.nocell _ (PySem.mem_of_lookup hy))
    · have e := S.free _ (PySem.mem_of_lookup hy) rfl
      refine ⟨cc, ?_⟩
      show ([(("__class__" : Str), cc)] : List (Str × Addr)).lookup y = some cc
      have e' : y = "__class__" := e
      rw [e']
      simp [List.lookup]
  · have hlen : N.length = vs.length := by rw [S.eqN, hl]
    have e2 : L2.start N vs = vs.map some := by unfold L2.start; rw [hlen, Nat.sub_self]; simp
    rw [e2, List.getElem?_map] at h2
    cases ea : vs[i]? with
    | none => rw [ea] at h2; cases h2
    | some a =>
      rw [ea] at h2
      cases h2
      obtain ⟨u, hu, rv⟩ := r.get ea
      have hp : ps[i]? = some y := by rw [← S.eqN]; exact h1
      exact ⟨u, rv, .inl ⟨S.par y (List.mem_of_getElem? hp), zip_lookup S.nd hp hu⟩⟩
  · obtain ⟨rfl, rfl⟩ := env_cells h
    exact ⟨cv, _, hk _ _ (e0.bs _ _ hcb).1, rfl⟩
  · obtain ⟨rfl, rfl⟩ := env_cells h
    exact (e0.bs _ _ hcb).2
  · unfold L2.start
    show _ = N.length
    rw [List.length_append, List.length_map, List.length_replicate, S.eqN]
    omega
end
open PySem.W (ksFn ksEnv)
/-- what the written part says of such a class -/
structure SupCls (P : Program) (K : PySem.W.Frag) (mg : Str → Option Value) (C : Addr) : Prop where
  cd : ∃ cd, PySem.W.clsIn K C = some cd
  mro : PySem.W.mroIn K C (.ref C) = some true
  sup : PySem.W.ks_superIn K C C "__init__" = some (some (.builtin "ValueError.__init__"))
  opq : PySem.W.nsIn K PySem.cStatics "thirdparty.any" = some none
  ve : PySem.W.subIn K (.ref C) (.type "ValueError") = some true
  mgs : mg "super" = none
  top : (P.main.scope.names.lookup ("super" : Str)).isSome = false
  ox : OexC K C
/-- and of its __init__ -/
structure SupFn (P : Program) (K : PySem.W.Frag) (st : Stmt) (qual : Str) (C f : Addr) (fd : FuncData) : Prop where
  ex : ∃ (oc : Value) (od : Option Addr) (kV doc pm : Value) (an : Option Addr) (cda : Addr) (ct : Value) (cc : Addr) (sl : Array (Option Value)),
    fd = ksFn "__init__" qual (defArgs st) (defBody st) (defScope st) .none kV doc pm an (.ref cda) ct cc ∧ K.lookup f = some ⟨oc, od, .func fd, sl⟩ ∧ PySem.W.codeIn K (.ref cda) qual = true ∧
    (∃ (a : Value) (b : Option Addr) (vs : Array Value) (d : Array (Option Value)) (file : Str) (tf : Tok), K.lookup cda = some ⟨a, b, .fields vs, d⟩ ∧ vs[2]? = some (.str file tf) ∧ ((P.main.file : Str) == file) = true) ∧
    ∃ (a : Value) (b : Option Addr) (d : Array (Option Value)), K.lookup cc = some ⟨a, b, .cell (some (.ref C)), d⟩
section
variable {CX : CXT} {P : Program} {w : World} {K : PySem.W.Frag} {mg : Str → Option Value} {base : Heap} {N ps : List Str} {qual : Str} {scope : Scope} {f cc cda C a : Addr} {A : Around} {outer : List Env} {s0 : Shared} {H0 : Hp} {E : XK}
variable {oc : Value} {od : Option Addr} {fd : FuncData} {sl : Array (Option Value)} {vs : Array Value} {file : Str} {tf : Tok}
theorem mw_call {X : Cx} {pins : List (Addr × Obj)} {σ : L2.St} {H : Hp} {s : Shared} {u : Addr} {us : List Value} {Q : Value → Shared → Prop} {B : Around} {EE : Value → Shared → Prop} (T : OexC X.K C) (I : Inv X ((u, PySem.W.kxs_mw "ValueError.__init__" a) :: pins) σ H s)
    (ea : H a = some (exo a C none)) (hz : us.length ≤ sizeLine) (q : ∀ s', Inv X ((u, PySem.W.kxs_mw "ValueError.__init__" a) :: pins) σ H s' → Q .none s') :
    wpAny (model X.prog X.w) B (call (.ref u) us) Q EE s := by
  obtain ⟨nm, q0, N0, bs, bm, sn, sub, ab, col, dd, k0, k1, k2, k3, k5, hC, hbm⟩ := T.cls
  obtain ⟨t1, ho⟩ := exo_at I.hok ea
  have hu := ClX.pin_at I
  have KX := I.kIn
  have eu : upd H a (exo a C none) = H := by
    funext b
    by_cases hb : b = a
    · rw [hb, upd_same, ea]
    · rw [upd_ne hb]
  have T1 : (Value.type "method-wrapper" == Value.type "method" || Value.type "method-wrapper" == Value.type "builtin_function_or_method" || Value.type "method-wrapper" == Value.type "method-wrapper") = true := by decide
  obtain ⟨hp, g, d, t, os⟩ := s
  refine wpAny_call (codeAny_of_tree ?_)
  show wpAny _ _ (callAny (.ref u) ⟨us, []⟩) _ _ _
  unfold callAny
  refine wpAny_bind (wpAny_load hu ?_)
  simp only [PySem.W.kxs_mw, T1, if_true]
  refine PySem.W.KFB.if_so (by decide) ?_
  refine wpAny_bind (PySem.W.check_bound_init F.excBase_ValueError.toExcCallFacts (KX _ _ hC) ho rfl ?_)
  refine wpAny_bind (wpAny_pure (wpAny_pure ⟨PySem.plainId_quiet F.excBase_ValueError.init.plain _, codeAny_builtin F.excBase_ValueError.initEntry ?_⟩))
  refine PySem.W.exc_init_tree (cls := .ref C) (t0 := t1) (dv := none) (c2 := .none) (c3 := .none) (b4 := .bool false) ho hz fun h' k e1 _ => ?_
  have J := I.write (t' := t) (x := a) (e := a) (o := exo a C none) (by rw [ea]; exact True.intro) (.inl rfl) k ⟨_, e1⟩ (exo_ok e1)
  rw [eu] at J
  exact q _ J

/-- super().__init__(e, ..) at the head of the body -/
theorem sup_run {an : Option Addr} {kV doc pm ct : Value} {body : List Stmt} {args : Arguments} {σ : L2.St} {H : Hp} {s : Shared} {ta : TA} {e : Expr} {es : List Expr} {p0 p1 p2 p3 p4 : Pos} {ar : Arg} {Q : Flow → Shared → Prop}
    (S : SupScope N ps scope) (D : SupCls P K mg C)
    (lk : K.lookup f = some ⟨oc, od, .func (ksFn "__init__" qual args body scope .none kV doc pm an (.ref cda) ct cc), sl⟩) (har : (args.posonlyargs ++ args.args).head? = some ar)
    (lc : ∃ (a : Value) (b : Option Addr) (vs : Array Value) (d : Array (Option Value)) (file : Str) (tf : Tok), K.lookup cda = some ⟨a, b, .fields vs, d⟩ ∧ vs[2]? = some (.str file tf) ∧ ((P.main.file : Str) == file) = true)
    (lq : ∃ (a : Value) (b : Option Addr) (d : Array (Option Value)), K.lookup cc = some ⟨a, b, .cell (some (.ref C)), d⟩)
    (I : Inv (cxSup CX P w K mg base N qual scope f (.ref cda) cc A outer s0 H0 E) [] σ H s) (h0 : σ[0]? = some (some (.ref a))) (hN : N[0]? = some ar.arg) (hloc : scope.names.lookup ar.arg = some .local)
    (ea : H a = some (exo a C none)) (hes : PA (cxSup CX P w K mg base N qual scope f (.ref cda) cc A outer s0 H0 E) (e :: es) ta)
    {R : Hp → Prop} (q : ta σ H fun us H1 => us.length ≤ 1000 ∧ H1 a = some (exo a C none) ∧ R H1)
    (cont : ∀ H1 s', R H1 → Inv (cxSup CX P w K mg base N qual scope f (.ref cda) cc A outer s0 H0 E) [] σ H1 s' → Q .next s')
    (he : starEach (e :: es) (ksEnv qual scope s0.heap.objs.size f (.ref cda) cc) = (false, eval e (ksEnv qual scope s0.heap.objs.size f (.ref cda) cc)) :: starEach es (ksEnv qual scope s0.heap.objs.size f (.ref cda) cc))
    (hpl : (backTo p3 (starEach es (ksEnv qual scope s0.heap.objs.size f (.ref cda) cc))).any (·.1) = false) 
    (hsw : swapsWith (.Call (.Attribute (.Call (.Name "super" p0) [] [] p1) "__init__" p2) (e :: es) [] p3) none p4.line (ksEnv qual scope s0.heap.objs.size f (.ref cda) cc) = pure false)
    {pl : Sem Bool} (hcall : eval (.Call (.Attribute (.Call (.Name "super" p0) [] [] p1) "__init__" p2) (e :: es) [] p3) (ksEnv qual scope s0.heap.objs.size f (.ref cda) cc) = (do
      let ov ← attributeBase (.Call (.Name "super" p0) [] [] p1) "__init__" (ksEnv qual scope s0.heap.objs.size f (.ref cda) cc) (eval (.Call (.Name "super" p0) [] [] p1) (ksEnv qual scope s0.heap.objs.size f (.ref cda) cc))
      standAt p2.atName
      let (fx, first) ← holding [ov] (getMethod ov "__init__" pl)
      callWith p3 fx first (backTo p3 (starEach (e :: es) (ksEnv qual scope s0.heap.objs.size f (.ref cda) cc))) []))
    (B : List Stmt) :
    PySem.wpAt (model P w) (A.deeper (ksEnv qual scope s0.heap.objs.size f (.ref cda) cc)) (.func B (ksEnv qual scope s0.heap.objs.size f (.ref cda) cc))
      (exec (.Expr (.Call (.Attribute (.Call (.Name "super" p0) [] [] p1) "__init__" p2) (e :: es) [] p3) p4) (ksEnv qual scope s0.heap.objs.size f (.ref cda) cc)) Q (cxSup CX P w K mg base N qual scope f (.ref cda) cc A outer s0 H0 E).xe s := by
  have KX : K.In s.heap := I.kIn
  obtain ⟨t1, hoe⟩ := exo_at I.hok ea
  obtain ⟨m, hn, hl⟩ := I.loc
  obtain ⟨u, ru, look⟩ := hl 0 ar.arg (.ref a) hN h0 (Or.inl hloc)
  obtain rfl : u = Value.ref a := ru
  have hm : m ar.arg = some (.ref a) := by
    rcases look with z | ⟨z, _⟩
    · exact z.2
    · have z : scope.names.lookup ar.arg = some .cell ∨ scope.names.lookup ar.arg = some .free := z
      rw [hloc] at z
      rcases z with z | z <;> cases z
  obtain ⟨c1, c2, vs, c3, file, tf, hcode, hvs, hfile⟩ := lc
  obtain ⟨c4, c5, c6, hcell⟩ := lq
  obtain ⟨cd, hcd⟩ := D.cd
  obtain ⟨mb, hb1, hb2⟩ := I.mod.blt
  obtain ⟨oD, hD1, hD2⟩ : ∃ oD, s.heap.get? C = some oD ∧ oD.data = .cls cd := by
    unfold PySem.W.clsIn at hcd
    split at hcd
    · rename_i ho
      cases hcd
      exact ⟨_, KX _ _ ho, rfl⟩
    · cases hcd
  obtain ⟨hh, g, d, t, os⟩ := s
  refine ks_wpAt_Expr_any ?_ I.quiet hsw
  refine ks_wpAt_MethodCall (he := hcall) ?_
  refine ks_wpAt_super_base (ar := ar) S.ks S.kc rfl rfl (KX _ _ lk) rfl har rfl (KX _ _ hcode) rfl hvs hfile D.top ?_
  refine PySem.W.ks_loadName_global S.kind S.ks (Calls.loadGlobal_builtin (I.mod.glob.keeps I.bk) D.mgs (hb1.keeps I.bk) ((hb2 _ (by decide)).trans PyProof.Rows.Boot.«super») ⟨rfl, ?_⟩)
  refine wpAny_loadName_free S.kind S.kc rfl ⟨_, KX _ _ hcell, rfl⟩ ?_
  refine wpAny_loadName_local S.kind hloc hn hm ?_
  refine ks_wpAny_isType_cls hD1 hD2 ⟨rfl, ?_⟩
  refine ks_wpAny_call_super hD1 hD2 hoe rfl (fun c z => by cases z) (PySem.W.looks_mroIn KX D.mro) (fun h' e1 k => ?_)
  have I1 := ClX.pin_new (t' := t) I k (Nat.le_refl _) e1 (fun v z => by cases z)
  have KX1 : K.In h' := I1.kIn
  have hca : a ≠ C := fun z => by
    subst z
    rw [hoe] at hD1
    cases hD1
    cases hD2
  have hsI : PySem.W.Looks (model P w) h' (isInstance (.ref a) (.type "ValueError")) true := by
    have II : PySem.W.InstAt h' a _ C none := ⟨k _ _ hoe, rfl, rfl, trivial⟩
    exact II.type.andThen (PySem.W.looks_subIn KX1 D.ve)
  have hsup := D.sup
  unfold PySem.W.ks_superIn at hsup
  rw [hcd] at hsup
  refine PySem.W.kxs_getMethod PySem.W.kxs_ValueError e1 (PySem.W.looks_opaque KX1 D.opq) (l₀ := cd.mro) (fun A Q E s k q => wpAny_bind ((PySem.W.looks_clsIn KX1 hcd) A _ E s k (wpAny_pure q))) rfl KX1 hsup hsI hca rfl ?_
  have I2 := ClX.pin_new (t' := t + 1) I1 (h' := h'.push (PySem.W.kxs_mw "ValueError.__init__" a)) (o := PySem.W.kxs_mw "ValueError.__init__" a) (fun b o z => Heap.get?_push_of_some _ z) (Nat.le_refl _) (Heap.get?_push_at rfl rfl) (fun v z => by cases z)
  dsimp only
  rw [he]
  refine PySem.W.kxs_callWith (i := "ValueError.__init__") (x := a) (by show (false || (backTo p3 (starEach es _)).any (·.1)) = false; rw [hpl]; rfl) (Calls.evalArgs_plain ?_)
  have run := hes.run p3 _ _ σ H _ I2 q
  rw [show starEach (e :: es) (cxSup CX P w K mg base N qual scope f (.ref cda) cc A outer s0 H0 E).env = _ from he] at run
  refine thn run fun us s1 ⟨xs, H1, I3, r1, hz, ea1, q1⟩ => ⟨ClX.pin_at I3, ?_⟩
  have hlen : us.length ≤ sizeLine := by
    rw [← Paired.length r1, sizeLine_eq]
    omega
  exact mw_call D.ox I3 ea1 hlen fun s' J => cont _ s' q1 (ClX.unpin (ClX.unpin J))

/-- such an __init__, by what it says behind super() -/
theorem sup_ok {st : Stmt} {fd : FuncData} {k : Nat} {sp : Sp} {body : List Stmt} {e : Expr} {p0 p1 p2 p3 p4 : Pos} {ar : Arg} {pl : Sem Bool} (F : SupFn P K st qual C f fd) (S : SupScope N ps (defScope st)) (D : SupCls P K mg C)
    (hb : defBody st = .Expr (.Call (.Attribute (.Call (.Name "super" p0) [] [] p1) "__init__" p2) [e] [] p3) p4 :: body) (har : ((defArgs st).posonlyargs ++ (defArgs st).args).head? = some ar) (hN : N[0]? = some ar.arg)
    (he : ∀ env : Env, starEach [e] env = [(false, eval e env)])
    (hsw : ∀ env : Env, swapsWith (.Call (.Attribute (.Call (.Name "super" p0) [] [] p1) "__init__" p2) [e] [] p3) none p4.line env = pure false)
    (hcall : ∀ env : Env, eval (.Call (.Attribute (.Call (.Name "super" p0) [] [] p1) "__init__" p2) [e] [] p3) env = (do
      let ov ← attributeBase (.Call (.Name "super" p0) [] [] p1) "__init__" env (eval (.Call (.Name "super" p0) [] [] p1) env)
      standAt p2.atName
      let (fx, first) ← holding [ov] (getMethod ov "__init__" pl)
      callWith p3 fx first (backTo p3 (starEach [e] env)) []))
    (len : ∀ vs H Q E, sp vs H Q E → vs.length = ps.length)
    (hbody : ∀ (cda : Value) (cc : Addr) (A : Around) (outer : List Env) (s : Shared) (H : Hp) (vs : List V) (Q : VK) (E : XK), Room k (A.deeper (ksEnv qual (defScope st) s.heap.objs.size f cda cc)) → sp vs H Q E →
      ∃ (a : Addr) (te : TE) (t : TS), vs[0]? = some (.ref a) ∧ H a = some (exo a C none) ∧ PE (cxSup CX P w K mg base N qual (defScope st) f cda cc A outer s H E) e te ∧ PSs (cxSup CX P w K mg base N qual (defScope st) f cda cc A outer s H E) body t ∧
        te (L2.start N vs) H fun x H1 => [x].length ≤ 1000 ∧ H1 a = some (exo a C none) ∧ t { nx := fun _ H' => Q .non H', rt := Q } (L2.start N vs) H1) : FnOk P w K mg base CX (k + 1) f fd ps sp := by
  obtain ⟨oc, od, kV, doc, pm, an, cda, ct, cc, sl, rfl, lk, hcd, lc, lq⟩ := F.ex
  refine ⟨len, fun A outer s H args us vs Q E hr e0 hbi r hsp => ?_⟩
  have hl := len _ _ _ _ hsp
  have KX : K.In s.heap := e0.mod.kin.keeps fun b o e => (e0.bs b o e).1
  have lim : s.heap.NoLimit := e0.mod.nolimit.keeps fun b o e => (e0.bs b o e).1
  obtain ⟨c4, c5, c6, hcell⟩ := lq
  refine ks_codeAny_call_defAt (body := defBody st) hr.depth (KX _ _ lk) rfl lim (PySem.W.codeRec_of KX hcd) rfl hbi S.nocell (fun ⟨n, v⟩ hy => S.par n (List.of_mem_zip hy).1) (fun h1 hns hk => ?_) S.co S.gen S.kind
  obtain ⟨a, te, t, hv, ea, pe, pss, q⟩ := hbody (.ref cda) cc A outer s H vs Q E (hr.deeper _) hsp
  have I : Inv (cxSup CX P w K mg base N qual (defScope st) f (.ref cda) cc A outer s H E) [] (L2.start N vs) H _ := inv_sup (t := s.toks + (ps.zip us).length) S hr.hd e0 hl r hcell hns hk
  have fin : ∀ {σ' : L2.St} {H' : Hp} {v : V} {u : Value} {s' : Shared}, Inv (cxSup CX P w K mg base N qual (defScope st) f (.ref cda) cc A outer s H E) [] σ' H' s' → RelV v u → Q v H' → CE outer P w H s Q u s' :=
    fun {σ' H' v u s'} J rv q => ⟨v, H', J.os, J.bare, J.base, J.hok, rv, q⟩
  have h0 : (L2.start N vs)[0]? = some (some (V.ref a)) := by
    unfold L2.start
    rw [List.getElem?_append_left (by rw [List.length_map]; exact (List.getElem?_eq_some_iff.mp hv).1), List.getElem?_map, hv]
    rfl
  have hloc : (defScope st).names.lookup ar.arg = some .local := S.par _ (by rw [← S.eqN]; exact List.mem_of_getElem? hN)
  show PySem.wpAt _ _ _ (execs (defBody st) _) _ _ _
  rw [hb]
  refine ks_wpAt_execs_cons ?_
  refine sup_run S D lk har lc ⟨c4, c5, c6, hcell⟩ I h0 hN hloc ea (pa_cons pe pa_nil (he _)) q (fun H1 s1 q1 J => ?_) (he _) rfl (hsw _) (hcall _) _
  refine wpAt_of_wpAny (wpAny_mono (pss.run [] s1 (L2.start N vs) H1 _ J q1) (fun fl s' hs => ?_) fun e s' hs => hs)
  cases fl with
  | ret u =>
    obtain ⟨v, σ', H', J, rv, q⟩ := hs
    exact fin J rv q
  | next =>
    obtain ⟨σ', H', J, q⟩ := hs
    exact fin (v := V.non) (u := Value.none) J rfl q
  | brk =>
    obtain ⟨_, _, _, q⟩ := hs
    exact False.elim q
  | cont =>
    obtain ⟨_, _, _, q⟩ := hs
    exact False.elim q
end
end My
set_option maxRecDepth 100000
set_option maxHeartbeats 1000000
namespace My
open PySem PySem.Spec PyProof.Rows L2
/-! ### max(x, default=d) of a list of whole numbers -/
theorem ints_reads {h : Heap} : ∀ {ns : List Int} {us : List Value}, Vals (ns.map V.int) us → ReadsAll h us (ns.map PyData.int) []
  | [], _, .nil => .nil
  | n :: ns, _, .cons r t => by
    obtain ⟨tk, rfl⟩ := r
    exact ReadsAll.cons (as := []) (bs := []) (.int n tk) (ints_reads t)
theorem alike_ints (ns : List Int) : PySem.W.AlikeAll (ns.map PyData.int) := by
  refine ⟨fun x hx y hy => ?_, fun x hx => ?_⟩
  · obtain ⟨i, _, rfl⟩ := List.mem_map.mp hx
    obtain ⟨j, _, rfl⟩ := List.mem_map.mp hy
    rfl
  · obtain ⟨i, _, rfl⟩ := List.mem_map.mp hx
    exact fun z => nomatch z
theorem depth_ints : ∀ ns : List Int, PyData.depthAll (ns.map PyData.int) ≤ 1
  | [] => by simp [PyData.depthAll]
  | n :: ns => by
    have := depth_ints ns
    simp only [List.map_cons, PyData.depthAll, PyData.depth]
    omega
theorem foldl_max (ns : List Int) : ∀ n : Int, (ns.foldl max n ∈ n :: ns) ∧ ∀ y ∈ n :: ns, y ≤ ns.foldl max n := by
  induction ns with
  | nil => intro n; simp
  | cons k r ih =>
    intro n
    obtain ⟨h1, h2⟩ := ih (max n k)
    rw [List.foldl_cons]
    refine ⟨?_, fun y hy => ?_⟩
    · rcases List.mem_cons.mp h1 with e | e
      · rw [e]
        rcases Int.le_total n k with z | z
        · rw [Int.max_eq_right z]; simp
        · rw [Int.max_eq_left z]; simp
      · exact List.mem_cons_of_mem _ (List.mem_cons_of_mem _ e)
    · have hm := h2 (max n k) List.mem_cons_self
      rcases List.mem_cons.mp hy with e | e
      · rw [e]; omega
      · rcases List.mem_cons.mp e with e | e
        · rw [e]; omega
        · exact h2 y (List.mem_cons_of_mem _ e)
section
variable {X : Cx}
def rMaxDf (K : PySem.W.Frag) : List V → List V → Hp → VK → Prop := fun xs zs H Q => ∃ (a : Addr) (ns : List Int) (d : Int), xs = [.ref a] ∧ zs = [.int d] ∧ SqL K H a (ns.map V.int) ∧
  (ns = [] → Q (.int d) H) ∧ ∀ m, m ∈ ns → (∀ y ∈ ns, y ≤ m) → Q (.int m) H
theorem call_maxDf (hc : X.calm = true) (hu : X.A.units + 10 < cLine) : CallRK X (.builtin "max") ["default"] (rMaxDf X.K) := by
  intro pins s σ H xs zs us ws Q I r rz h
  obtain ⟨a, ns, d, rfl, rfl, hq, h0, h1⟩ := h
  obtain rfl := Vals.ref1 r
  obtain ⟨w, rfl, rw'⟩ := rz.one
  obtain ⟨its, rv, pl, hz⟩ := I.list hq
  have hd := depth_ints ns
  refine PySem.W.max_list_default (I.ok.hd hc) pl.isList (xs := ns.map PyData.int) (as := []) (by rw [List.toList_toArray]; exact ints_reads rv) (alike_ints ns) (by show X.A.units + 1 + _ < _; omega) (fun e h' tk k => ?_) fun y ys i v h' tk bs e hv rd k => ?_
  · exact ⟨.int d, H, I.kept (t' := tk) k, rw', h0 (List.map_eq_nil_iff.mp e)⟩
  · cases ns with
    | nil => cases e
    | cons n ns =>
      rw [List.map_cons] at e
      obtain ⟨rfl, rfl⟩ := List.cons.inj e
      rw [PySem.W.maxD_ints] at rd
      obtain ⟨t0, rfl, _⟩ := reads_int_inv rd
      obtain ⟨m1, m2⟩ := foldl_max ns n
      exact ⟨.int (ns.foldl max n), H, I.kept (t' := tk) k, ⟨_, rfl⟩, h1 _ m1 m2⟩
/-! ### isinstance(e, c) of a caught error with fields -/
theorem call_isExD {a : Addr} {oe : Obj} {cls : Value} {d : Option Addr} {pn : List (Addr × Obj)} (hz : Zc cls d oe) (hf : ∃ vs, oe.data = .fields vs) :
    CallR (X.suite a ((a, oe) :: pn)) (.builtin "isinstance") (fun xs H Q => ∃ D dd fs, cls = .ref D ∧ d = some dd ∧ H dd = some (.xd fs) ∧ ExcC X.K D ∧ rIsE X.K D a xs H Q) := by
  intro pins s σ H xs us Q I r h
  obtain ⟨D, dd, fs, rfl, rfl, hd, C, c, cv, b, rfl, hcv, e, q⟩ := h
  cases r with
  | cons rx rr =>
    cases rr with
    | cons rt rr =>
      cases rr
      cases rx
      have ec := hcv _ rt
      subst ec
      obtain ⟨hget, _⟩ := I.pin (a, oe) (List.mem_append.mpr (.inl List.mem_cons_self))
      obtain ⟨vs, hv⟩ := hf
      have hx : ObjOk X.prog X.w H s.heap dd (.xd fs) := I.hok dd _ hd
      obtain ⟨mA, ⟨od, es, ep, ho, _⟩, _⟩ := hx
      have J : PySem.W.InstAt s.heap a oe D (some od) := ⟨hget, hz.1, by unfold PySem.W.notCls; rw [hv] <;> rfl, by rw [hz.2]; exact ho⟩
      obtain ⟨cdD, hcD, _⟩ := PySem.W.any_some C.hd
      refine PySem.W.kia_one (PySem.W.kitx_exc (od := some od) (by rw [hcD]; rfl) C.hg C.hk C.hs C.ha C.hn C.ht C.hm) I.kIn J e (fun z => nomatch z) fun tk => ⟨.bl b, H, I.kept (t' := tk) fun _ _ z => z, rfl, q⟩
end
/-! ### what such a class has, by a check -/
theorem tail_refs : ∀ {l : List Value}, PySem.W.excTail [.type "ValueError", .type "Exception", .type "BaseException", .type "object"] l = true → PySem.HandSPX.refsVE l = true := by
  intro l
  induction l with
  | nil => intro h; revert h; decide
  | cons a t ih =>
    intro h
    cases a <;> first | exact ih h | exact h
theorem oex_of {K : PySem.W.Frag} {C : Addr} (q : PySem.W.excInitIn K C [.type "ValueError", .type "Exception", .type "BaseException", .type "object"] "ValueError.__new__" = true) (hd : PySem.W.hasDictIn K C = true)
    (sa : PySem.W.findIn K (.ref C) "__setattr__" = some (some (.builtin "object.__setattr__"))) (bp : PySem.W.subIn K (.ref C) (.type "BaseException") = some true) (tp : PySem.W.typeIn K (.ref C) = some (.type "type")) (kp : PySem.W.keepIn K (.ref C) = true) : OexC K C := by
  refine ⟨?_, sa, bp, tp, kp⟩
  unfold PySem.W.excInitIn at q
  split at q
  · rename_i dd cd sl ho
    split at q
    · rename_i C' bm k0 k1 k2 k3 n k5 hm hs
      simp only [Bool.and_eq_true, beq_iff_eq, Bool.not_eq_true'] at q
      obtain ⟨⟨⟨e1, e2⟩, hdel⟩, ht⟩ := q
      subst e1
      subst e2
      obtain ⟨cd1, hc1, hd1⟩ := PySem.W.any_some hd
      have ec : PySem.W.clsIn K C' = some cd := by unfold PySem.W.clsIn; rw [ho]
      rw [ec] at hc1
      cases hc1
      obtain ⟨nm, bs, mro, ns, qn, hdc, sn, sub, ab, col, del⟩ := cd
      dsimp only at hm hdel hd1
      subst hm
      subst hdel
      subst hd1
      have hsl : sl = #[k0, k1, k2, k3, some (.builtin "ValueError.__new__"), k5] := by
        obtain ⟨l⟩ := sl
        simp only at hs
        rw [hs]
      subst hsl
      exact ⟨nm, qn, ns, bs, bm, sn, sub, ab, col, dd, k0, k1, k2, k3, k5, ho, tail_refs ht⟩
    · cases q
  · cases q
/-! ### the promises of such an __init__ -/
/-- one field -/
def spX1 (C : Addr) (f : Str) (P : V → Prop) : Sp := fun vs H Q _ => ∃ (a : Addr) (y : V), vs = [.ref a, y] ∧ P y ∧ H a = some (exo a C none) ∧ ∀ d, H d = none → d ≠ a → Q .non (upd (upd H d (exd d [(f, y)])) a (exo a C (some d)))
def smallI (y : V) : Prop := ∃ i : Int, y = .int i ∧ i.natAbs < 1000000
theorem small_log {i : Int} (h : i.natAbs < 1000000) : i.natAbs.log2 < 1920 := by
  rcases Nat.eq_zero_or_pos i.natAbs with e | e
  · rw [e]; decide
  · exact Nat.lt_of_lt_of_le ((Nat.log2_lt (by omega)).mpr (Nat.lt_of_lt_of_le h (by decide : 1000000 ≤ 2 ^ 20))) (by decide)
end My
set_option maxRecDepth 100000
set_option maxHeartbeats 1000000
namespace My
open PySem PySem.Spec PyProof.Rows L2
/-! ### iter(t) of a tuple; list(o), o's class with its own __iter__ (a tuple's iterator) and its own __len__ -/
/-- a tuple's iterator at it, over the tuple at l, the next place i -/
def TitO (l it : Addr) (i : Nat) : HO := .ext fun h => h.IsTupleIter it l i
/-- at it stands something -/
def AnyO (it : Addr) : HO := .ext fun h => ∃ o, h.get? it = some o
theorem titO_ok {P : Program} {w : World} {H : Hp} {h : Heap} {l it : Addr} {i : Nat} (e : h.IsTupleIter it l i) : ObjOk P w H h it (TitO l it i) :=
  ⟨e, ⟨_, e.choose_spec.1⟩, fun h1 h2 q k => let ⟨o, ho, r⟩ := q; ⟨o, k _ ho, r⟩⟩
theorem anyO_ok {P : Program} {w : World} {H : Hp} {h : Heap} {it : Addr} (e : ∃ o, h.get? it = some o) : ObjOk P w H h it (AnyO it) := ⟨e, e, fun h1 h2 q k => let ⟨o, ho⟩ := q; ⟨o, k _ ho⟩⟩
section
variable {X : Cx} {pins : List (Addr × Obj)} {σ : L2.St} {H : Hp} {s : Shared} {l it S : Addr} {i : Nat}
theorem titO_get (I : Inv X pins σ H s) (e : H it = some (TitO l it i)) : s.heap.IsTupleIter it l i := (I.hok it _ e).1
theorem call_iterT : CallR X (.builtin "iter") (fun xs H Q => ∃ (l : Addr) (zs : List V), xs = [.ref l] ∧ SqT X.K H l zs ∧ ∀ it, H it = none → Q (.ref it) (upd H it (TitO l it 0))) := by
  intro pins s σ H xs us Q I r h
  obtain ⟨l, zs, rfl, hq, q⟩ := h
  obtain rfl := Vals.ref1 r
  obtain ⟨its, rv, pl, hz⟩ := I.tuple hq
  refine Calls.call_function_entry (by decide +kernel) (by decide +kernel) PySem.W.kdk_entry_iter (PySem.W.kdk_args_iter _) ?_
  unfold Builtin.«iter»
  refine wpAny_bind (m := someArgs "iter" 1 2 _) (wpAny_of_eq (a := [Value.ref l]) (by first | rfl | kernel_rfl!) ?_)
  show wpAny _ _ (pyIter (.ref l) >>= _) _ _ _
  refine wpAny_bind (wpAny_pyIter_tuple (show s.heap.IsTuple l its.toArray from pl) (wpAny_pure ⟨_, rfl, ?_⟩))
  exact ⟨.ref s.heap.objs.size, _, I.laid (t' := s.toks) (fun b u e => Heap.get?_push_of_some _ e) (Nat.le_refl _) (titO_ok ⟨_, Heap.get?_push_size _ rfl, rfl, rfl⟩), rfl, q _ (I.hok.fresh (Nat.le_refl _))⟩
/-- the end of a tuple's iterator; its record stays -/
theorem tup_end {prog : Program} {w : World} {A : Around} {E : Value → Shared → Prop} {items : Array Value} {Q : Option Value → Shared → Prop} (hh : A.handled = none) (hit : s.heap.IsTupleIter it l i) (ht : s.heap.IsTuple l items) (hx : items[i]? = none)
    (hQ : ∀ h', (∀ b o, b ≠ it → s.heap.get? b = some o → h'.get? b = some o) → (∃ o, h'.get? it = some o) → Q none { s with heap := h' }) : wpAny (model prog w) A (pyNext (.ref it)) Q E s := by
  obtain ⟨o, ho, hc, hd⟩ := id hit
  obtain ⟨ol, hol, _, nl, hdl⟩ := ht
  have hup := Heap.get?_update_self (Obj.mapFields (·.setIfInBounds 0 Value.none)) ho (Obj.isFreed_of_fields (Obj.data_mapFields hd _))
  unfold pyNext
  refine wpAny_bind (wpAny_attempt (wpAny_callSpecial?_slot (name := Str.ofString "__next__") hit.typeIs PySem.F.slot_tuple_iterator_next (wpAny_call_entry PySem.F.slot_tuple_iterator_next hit.typeIs PySem.F.entry_tuple_iterator_next ?_ (PySem.F.args_tuple_iterator_next_1 _))))
  show wpAny _ _ (field (.ref it) 0 >>= _) _ _ s; refine wpAny_bind (wpAny_field ho hd (x := .ref l) rfl ?_); show wpAny _ _ (if (Value.ref l == Value.none) = true then _ else _) _ _ s
  rw [if_neg (fun z => by revert z; exact Bool.false_ne_true : ¬ ((Value.ref l == Value.none) = true))]; show wpAny _ _ (field (.ref it) 1 >>= _) _ _ s
  refine wpAny_bind (wpAny_field ho hd (x := .int i 0) rfl ?_); show wpAny _ _ (seqItems? (.ref l) >>= _) _ _ s
  refine wpAny_bind (wpAny_seqItems hol hdl ?_)
  simp only [Int.toNat_natCast, hx]
  refine wpAny_bind (wpAny_rule (wpAny_bind (wpAny_setField ho hd (by simp) ?_))); show wpAny _ _ (newExc (.type "StopIteration") [] >>= _) _ _ _
  refine wpAny_bind ?_
  simp only [newExc, newTuple]
  refine wpAny_bind (wpAny_newObj_type ?_ (by size_fits)); refine wpAny_bind (m := firstArgMember _ _) (wpAny_of_eq (a := Value.none) (by first | rfl | (simp only [firstArgMember]; rfl)) ?_)
  refine wpAny_newObj_type ?_ (by size_fits)
  simp only [raiseNew]
  refine wpAny_bind (wpAny_handled ?_)
  first | rw [show A.in1.handled = none from hh] | rw [hh]
  refine wpAny_bind (wpAny_pure (wpAny_throw ?_))
  refine wpAny_bind (wpAny_isInstance (T := "StopIteration") (b := true) ⟨_, Heap.get?_push_size _ rfl, rfl⟩ isSubtype_stop (wpAny_pure (hQ _ (fun b ob hb e => ?_) ⟨_, Heap.get?_push_of_some _ (Heap.get?_push_of_some _ hup)⟩)))
  exact Heap.get?_push_of_some _ (Heap.get?_push_of_some _ ((Heap.get?_update_other _ _ (Ne.symm hb)).trans e))
/-- list.extend over it -/
theorem tit_loop {A1 : Around} {ys : List V} {Rs : Result → Shared → Prop} (hh : A1.handled = none) :
    ∀ (k i : Nat) (H : Hp) (s : Shared), ys.length - i = k → i ≤ ys.length → Inv X pins σ H s → H it = some (TitO l it i) → H l = some (.tup ys) → H S = some (.lst (ys.take i)) → ys.length < sizeLine →
      (∀ H2 s2, Inv X pins σ H2 s2 → (∀ b, b ≠ it → b ≠ S → H2 b = H b) → H2 S = some (.lst ys) → Rs (.ok (.ret .none)) s2) → codeAny (model X.prog X.w) A1 (.builtin "list.extend.loop" ⟨[.ref S, .ref it, .none], []⟩) Rs s := by
  intro k
  induction k with
  | zero =>
    intro i H s hk hi I h1 h2 h3 hz hR
    have hne : S ≠ it := ne_of h3 h1 (fun z => nomatch z)
    obtain ⟨its, rv, pl, _⟩ := I.tuple (SqT.of h2)
    refine codeAny_builtin PySem.F.entry_extend_loop ?_
    rw [Around.under_plainId PySem.F.plain_extend_loop _]
    show wpAny _ A1.in1 (pyNext (.ref it) >>= _) _ _ s
    have hno : (its.toArray)[i]? = none := by
      have := rv.length
      rw [List.getElem?_toArray, List.getElem?_eq_none_iff]
      omega
    refine wpAny_bind (tup_end hh (titO_get I h1) (show s.heap.IsTuple l its.toArray from pl) hno fun h' k' e' => wpAny_pure ?_)
    have J := I.write (t' := s.toks) (x := it) (e := it) (o := AnyO it) (by rw [h1]; exact True.intro) (.inl rfl) k' e' (anyO_ok e')
    refine hR _ _ J (fun b hb _ => upd_ne hb) ?_
    rw [upd_ne hne, h3, List.take_of_length_le (by omega)]
  | succ k ih =>
    intro i H s hk hi I h1 h2 h3 hz hR
    have hne : S ≠ it := ne_of h3 h1 (fun z => nomatch z)
    have hln : l ≠ it := ne_of h2 h1 (fun z => nomatch z)
    have hlS : l ≠ S := ne_of h2 h3 (fun z => nomatch z)
    obtain ⟨its, rv, pl, _⟩ := I.tuple (SqT.of h2)
    have hlen := rv.length
    have hlt : i < ys.length := by omega
    obtain ⟨u, hu, ru⟩ := rv.get (i := i) (x := ys[i]) (by simp [hlt])
    refine codeAny_builtin PySem.F.entry_extend_loop ?_
    rw [Around.under_plainId PySem.F.plain_extend_loop _]
    show wpAny _ A1.in1 (pyNext (.ref it) >>= _) _ _ s
    refine wpAny_bind (wpAny_pyNext_tuple_item (titO_get I h1) (show s.heap.IsTuple l its.toArray from pl) (x := u) (by rw [List.getElem?_toArray]; exact hu) fun h' hit hs => ?_)
    have J := I.write (t' := s.toks) (x := it) (e := it) (o := TitO l it (i + 1)) (by rw [h1]; exact True.intro) (.inl rfl) (fun b o hb e => hs.extBut b o hb e) ⟨_, hit.choose_spec.1⟩ (titO_ok hit)
    have h3' : upd H it (TitO l it (i + 1)) S = some (.lst (ys.take i)) := by rw [upd_ne hne]; exact h3
    show wpAny _ A1.in1 (updateSeq S (·.push u) >>= _) _ _ _
    obtain ⟨z, its3, n3, r3, hl3, e3⟩ := J.lstM h3'
    have hl4 : its3.length = i := by rw [← hl3, List.length_take]; omega
    refine wpAny_bind (wpAny_updateSeq e3 rfl (wpAny_pure ⟨plainId_quiet PySem.F.plain_extend_loop _, ?_⟩) (by rw [List.size_toArray]; omega) (by show (its3.toArray.push u).size ≤ sizeLine + 1; rw [Array.size_push, List.size_toArray]; omega))
    have et : ys.take (i + 1) = ys.take i ++ [ys[i]] := by rw [List.take_succ]; simp [hlt]
    have J2 := J.lset (f := (·.push u)) (its' := its3 ++ [u]) (t' := s.toks) (ys := ys.take (i + 1)) h3' e3 (by simp) (by rw [et]; exact r3.append (.cons ru .nil)) (by rw [List.length_take]; omega)
    refine ih (i + 1) _ _ (by omega) hlt J2 ?_ ?_ upd_same hz fun H2 s2 I2 k2 e2 => hR H2 s2 I2 (fun b hb hc => ?_) e2
    · rw [upd_ne (Ne.symm hne), upd_same]
    · rw [upd_ne hlS, upd_ne hln]; exact h2
    · rw [k2 b hb hc, upd_ne hc, upd_ne hb]
/-- what such a class must have -/
structure ItL (K : PySem.W.Frag) (C fi fl : Addr) : Prop where
  it : PySem.W.findIn K (.ref C) "__iter__" = some (some (.ref fi))
  itF : PySem.W.isFn K (.ref fi) = true
  ln : PySem.W.findIn K (.ref C) "__len__" = some (some (.ref fl))
  lnF : PySem.W.isFn K (.ref fl) = true

/-- list(o): its __iter__ gives a tuple's iterator, its __len__ a number -/
def rLstIt (C : Addr) (spI spL : Sp) (EI EL : XK) : List V → Hp → VK → Prop := fun xs H Q => ∃ a dx fs, xs = [.ref a] ∧ H a = some (.ins C dx fs) ∧ ∀ q, H q = none → q ≠ a →
  spI [.ref a] (upd H q (.lst [])) (fun v H1 => ∃ it l ys, v = .ref it ∧ H1 it = some (TitO l it 0) ∧ H1 l = some (.tup ys) ∧ H1 q = some (.lst []) ∧ H1 a = some (.ins C dx fs) ∧ ys.length < sizeLine ∧
    spL [.ref a] H1 (fun n H2 => H2 = H1 ∧ ∃ k : Int, n = .int k ∧ 0 ≤ k ∧ k < 1000) EL ∧ ∀ H2, (∀ b, b ≠ it → b ≠ q → H2 b = H1 b) → H2 q = some (.lst ys) → Q (.ref q) H2) EI
section
variable {X : Cx} {CI : CXT} {n : Nat} {C fi fl : Addr} {fdI fdL : FuncData} {psI psL : List Str} {spI spL : Sp} {EI EL : XK}
theorem call_at0 {f : Addr} {fd : FuncData} {ps : List Str} {sp : Sp} {E : XK} (G0 : FnOk X.prog X.w X.K X.mg X.base CX0 n f fd ps sp) (hb : Binds X.K fd ps []) {A : Around} (hr : Room n A) (hA : A.frames = X.A.frames)
    {pins : List (Addr × Obj)} {s : Shared} {σ : L2.St} {H : Hp} (I : Inv X pins σ H s) {vs : List V} {us : List Value} (r : Vals vs us) {Q : VK} {EE : Value → Shared → Prop} (h : sp vs H Q E) :
    wpAny (model X.prog X.w) A (call (.ref f) us) (EP X pins σ Q) EE s := by
  have e0 : Env0 X.prog X.w X.K X.mg X.base A X.stack s H := by
    have e := I.env0
    exact ⟨by rw [hA]; exact e.frames, e.mod, e.bs, e.bsz, e.funs, e.frf, e.hok, e.bare⟩
  have hl := G0.len _ _ _ _ h
  refine wpAny_call (codeAny_mono (G0.run A X.stack s H ⟨us, []⟩ us vs Q E hr e0 (by
    have := hb s us I.kIn (by rw [List.append_nil, ← r.length]; exact hl)
    simpa using this) r h) fun r s' hq => ?_)
  cases r with
  | error e => exact False.elim hq
  | ok fl =>
    cases fl with
    | ret w => exact I.after hq
    | next => exact False.elim hq
    | brk => exact False.elim hq
    | cont => exact False.elim hq
theorem call_listIt (hc : ItL X.K C fi fl) (FI : FnOk X.prog X.w X.K X.mg X.base CI n fi fdI psI spI) (bI : Binds X.K fdI psI []) (xI : Passes CI X EI)
    (FL : FnOk X.prog X.w X.K X.mg X.base CX0 n fl fdL psL spL) (bL : Binds X.K fdL psL []) (hr : Room (n + 4) X.A) : CallR X (.type "list") (rLstIt C spI spL EI EL) := by
  intro pins s σ H xs us Q I rv h
  obtain ⟨a, dx, fs, rfl, ha, hq⟩ := h
  obtain ⟨u, rfl, ru⟩ := rv.one
  cases ru
  have sb : Sub X (n + 2) X.A.in1.in1 := (Sub.in1 (Sub.in1 (⟨hr, rfl⟩ : Sub X (n + 4) X.A)))
  refine callType_codes (Q₁ := fun obj s₁ => obj = .ref s.heap.objs.size ∧ s₁ = { s with heap := s.heap.push { cls := .type "list", data := .seq #[] } }) PySem.F.called_list (PySem.F.typeCall_list_1 _) PySem.F.entry_list_init (code_list_new _ ⟨rfl, rfl⟩) fun obj s₁ h₁ => ?_
  obtain ⟨rfl, rfl⟩ := h₁
  have hS : (s.heap.push { cls := .type "list", data := .seq #[] }).get? s.heap.objs.size = some { cls := .type "list", data := .seq #[] } := Heap.get?_push_size _ rfl
  refine ⟨⟨_, hS, rfl⟩, PySem.F.args_list_init_2 _ _, ?_⟩
  have fr : H s.heap.objs.size = none := I.hok.fresh (Nat.le_refl _)
  have sp0 := hq _ fr (fun z => by rw [z, ha] at fr; cases fr)
  have I1 : Inv X pins σ (upd H s.heap.objs.size (.lst [])) { s with heap := s.heap.push { cls := .type "list", data := .seq #[] } } := I.lnew (its := []) (t' := s.toks) .nil (Nat.zero_le _)
  show wpAny _ _ (do let old ← Builtin.List.listItems (.ref s.heap.objs.size); Builtin.List.listUpdate (.ref s.heap.objs.size) (fun _ => #[]); letGo old.toList.reverse; Builtin.List.listExtendWith (.ref s.heap.objs.size) (.ref a) .none) _ _ _
  refine wpAny_bind ?_
  unfold Builtin.List.listItems
  refine wpAny_bind (wpAny_seqItems hS rfl (wpAny_pure ?_))
  show wpAny _ _ (updateSeq s.heap.objs.size (fun _ => #[]) >>= fun _ => letGo (#[] : Array Value).toList.reverse >>= fun _ => Builtin.List.listExtendWith (.ref s.heap.objs.size) (.ref a) .none) _ _ _
  refine wpAny_bind (wpAny_updateSeq hS rfl ?_)
  have I2 := I1.lset (f := fun _ => #[]) (its := []) (its' := []) (ys := []) (t' := s.toks) upd_same hS rfl .nil (Nat.zero_le _)
  rw [upd_upd] at I2
  refine wpAny_bind (wpAny_letGo ?_)
  have ha2 : upd H s.heap.objs.size (.lst []) a = some (.ins C dx fs) := by rw [upd_ne (ne_of_none ha fr)]; exact ha
  have hne : s.heap.objs.size ≠ a := fun z => by rw [z, ha] at fr; cases fr
  generalize hq0 : s.heap.objs.size = q at *
  generalize hH0 : upd H q (.lst []) = H0 at *
  obtain ⟨mA, J, _⟩ := ins_get I2.hok ha2
  obtain ⟨od, J, _⟩ := J.look
  obtain ⟨m0, hF⟩ := I2.fr
  unfold Builtin.List.listExtendWith
  refine wpAny_bind (J.type.here ?_)
  have h1 : Builtin.List.listSameRef (.ref q) (.ref a) = false := by simp [Builtin.List.listSameRef, hne]
  simp only [h1, (rfl : (Value.ref C == Value.type "list") = false), (rfl : (Value.ref C == Value.type "tuple") = false), Bool.or_false, Bool.false_eq_true, if_false]
  refine wpAny_bind (PySem.W.owit_iter hF I2.ok.mod.kin J hc.it hc.itF ?_)
  refine wpAny_mono (call_at FI bI xI (A := X.A.in1.in1) (sb.mono (by omega)).room sb.fr I2 (vs := [.ref a]) (.cons rfl .nil) sp0) (fun v s3 z => ?_) fun _ _ z => z
  obtain ⟨x, H1, I3, r3, it, l, ys, ex, e1, e2, e3, e4, hz, q1, q2⟩ := z
  subst ex
  obtain rfl : v = Value.ref it := r3
  have hit := titO_get I3 e1
  unfold PySem.W.OwitIt
  refine wpAny_specialOf (show s3.TypeIs (.ref it) "tuple_iterator" from hit.typeIs) PySem.F.slot_tuple_iterator_next.lookup ?_
  show wpAny _ _ _ _ _ s3
  refine wpAny_bind (wpAny_holding ?_)
  obtain ⟨mB, J3, _⟩ := ins_get I3.hok e4
  obtain ⟨od3, J3, _⟩ := J3.look
  obtain ⟨m3, hF3⟩ := I3.fr
  unfold Builtin.List.listLengthHint
  refine wpAny_bind (wpAny_bind (J3.type.here ((PySem.W.looks_findIn I3.kIn hc.ln).here ?_)))
  refine PySem.W.KFB.if_not rfl ?_
  refine PySem.W.KFB.if_so rfl ?_
  refine wpAny_bind (wpAny_rule (wpAny_bind (wpAny_attempt ?_)))
  refine PySem.W.len_K hF3 I3.ok.mod.kin J3 hc.ln hc.lnF (wpAny_mono (call_at0 FL bL (A := X.A.in1.in1.in1) (Sub.in1 (sb.mono (show n + 1 ≤ n + 2 by omega))).room sb.fr I3 (vs := [.ref a]) (.cons rfl .nil) q1) (fun v s4 z => ?_) fun _ _ z => z)
  obtain ⟨x, H2, I4, r4, eH, k0, ek, hk0, hk1⟩ := z
  subst ek
  subst eH
  obtain ⟨tk4, rfl⟩ := r4
  refine ⟨⟨hk0, by omega⟩, ?_⟩
  refine wpAny_bind (wpAny_of_eq (a := some k0) rfl ?_)
  show wpAny _ _ (if Builtin.List.listTooLong k0.toNat = true then _ else _) _ _ _
  refine PySem.W.KFB.if_not (notLongL (by rw [sizeLine_eq]; omega)) (wpAny_pure ?_)
  have I5 := I4.tok (s4.toks + 1)
  have hne1 : q ≠ it := ne_of e3 e1 (fun z => nomatch z)
  have go : ∀ s5, Inv X pins σ H2 s5 → codeAny (model X.prog X.w) X.A.in1 (.builtin "list.extend.loop" ⟨[.ref q, .ref it, .none], []⟩) (wants (fun r s₂ => r = .none ∧ EP X pins σ Q (.ref q) s₂) X.xe) s5 := fun s5 I6 =>
    tit_loop (A1 := X.A.in1) (Rs := wants (fun r s₂ => r = .none ∧ EP X pins σ Q (.ref q) s₂) X.xe) (show X.A.in1.handled = none from hr.hd) ys.length 0 H2 s5 (by omega) (Nat.zero_le _) I6 e1 e2 (by rw [List.take_zero]; exact e3) hz fun H7 s7 I7 k7 e7 => ⟨rfl, .ref q, H7, I7, rfl, q2 H7 k7 e7⟩
  refine wpAny_ite_split (fun _ => ?_) (fun _ => wpAny_pure ⟨plainId_quiet PySem.F.plain_extend_loop _, go _ I5⟩)
  refine wpAny_bind (wpAny_rule (wpAny_bind ?_))
  show wpAny _ _ (updateSeq q (·.push .none) >>= fun _ => updateSeq q (·.pop)) _ _ _
  obtain ⟨z, its, n5, r5, hl5, e5⟩ := I5.lstM e3
  cases r5
  refine wpAny_bind (wpAny_updateSeq e5 rfl ?_)
  have I6 := I5.lset (f := (·.push Value.none)) (its' := [Value.none]) (ys := [.non]) (t' := s4.toks + 1) e3 e5 (by simp) (.cons rfl .nil) (by rw [List.length_singleton, sizeLine_eq]; decide)
  obtain ⟨z6, its6, n6, r6, hl6, e6⟩ := I6.lstM upd_same
  obtain ⟨u6, rfl, ru6⟩ := r6.one
  refine wpAny_updateSeq e6 rfl (wpAny_pure ⟨plainId_quiet PySem.F.plain_extend_loop _, go _ ?_⟩) (by show 1 ≤ sizeLine; rw [sizeLine_eq]; decide) (by show 0 ≤ sizeLine + 1; exact Nat.zero_le _)
  have I7 := I6.lset (f := (·.pop)) (its := [u6]) (its' := []) (ys := []) (t' := s4.toks + 1) upd_same e6 (by rfl) .nil (Nat.zero_le _)
  rw [upd_upd] at I7
  have hH : upd H2 q (.lst []) = H2 := by
    funext b
    by_cases hb : b = q
    · rw [hb, upd_same, e3]
    · rw [upd_ne hb]
  rw [hH] at I7
  exact I7
end
end
end My
set_option maxRecDepth 100000
set_option maxHeartbeats 2000000
namespace My
open PySem PySem.Spec PyProof.Rows L2
/-! ### enumerate(t), t a tuple -/
theorem enum_new1 {v : Value} {o : Obj} {G : Heap → Prop} (B : Begins v o G) :
    Meets (Builtin.«enumerate.__new__» ⟨[.type "enumerate", v], []⟩) (fun _ R s => G s.heap ∧
      R (.ok (.ret (.ref (s.heap.push o).objs.size))) { s with heap := (s.heap.push o).push { cls := .type "enumerate", data := .fields #[.none, .bool false, .ref s.heap.objs.size, rawInt 0, .none, .none] } }) := by
  refine .of_wp fun prog w A R s h => ?_
  obtain ⟨hp, g, d, tk, os⟩ := s
  obtain ⟨h1, h⟩ := h
  have hsub := sub_enumerate
  have goB : ∀ {A' : Around} {E Q : Value → Shared → Prop}, Q (.ref hp.objs.size) ⟨hp.push o, g, d, tk, os⟩ → wpAny (model prog w) A' (pyIter v) Q E ⟨hp, g, d, tk, os⟩ := fun q => B.iter prog w _ _ ⟨hp, g, d, tk, os⟩ _ h1 q
  wp_walk using goB
  refine wpAny_stack_any fun st => wpAny_pure ?_
  split
  · rename_i c _ _ _ _ _
    cases (c == Value.type "enumerate") <;> (wp_walk using goB; exact ⟨_, rfl, h⟩)
  · wp_walk using goB
    exact ⟨_, rfl, h⟩
theorem call_enum1 {prog : Program} {w : World} {A : Around} {E : Value → Shared → Prop} {s : Shared} {v : Value} {o : Obj} {G : Heap → Prop} {Q : Value → Shared → Prop} (B : Begins v o G) (h1 : G s.heap)
    (h : ∀ h', IsEnum h' (s.heap.objs.size + 1) s.heap.objs.size 0 .none → h'.get? s.heap.objs.size = some o → (∀ b o, s.heap.get? b = some o → h'.get? b = some o) → Q (.ref (s.heap.objs.size + 1)) { s with heap := h' }) :
    wpAny (model prog w) A (call (.type "enumerate") [v]) Q E s := by
  refine callType_new PySem.F.called_enumerate (by decide) (PySem.F.typeCall_enumerate_1 _) (PySem.F.newCall_enumerate_1 _) (fun obj => PySem.F.args_object_init_2 obj _) PySem.F.entry_enumerate_new (enum_new1 B) ⟨h1, ?_⟩
  have hz : (s.heap.push o).objs.size = s.heap.objs.size + 1 := Heap.size_push ..
  show _ ∧ _
  rw [hz]
  have he : IsEnum ((s.heap.push o).push { cls := .type "enumerate", data := .fields #[.none, .bool false, .ref s.heap.objs.size, rawInt 0, .none, .none] }) (s.heap.objs.size + 1) s.heap.objs.size 0 .none := by
    have q := Heap.get?_push_size (s.heap.push o) (o := { cls := .type "enumerate", data := .fields #[.none, .bool false, .ref s.heap.objs.size, rawInt 0, .none, .none] }) rfl
    rwa [hz] at q
  exact ⟨⟨_, he, rfl⟩, h _ he (Heap.get?_push_of_some _ (Heap.get?_push_size _ B.free)) fun b o x => Heap.get?_push_of_some _ (Heap.get?_push_of_some _ x)⟩
def IteT (K : PySem.W.Frag) (a : Addr) : It :=
  ⟨fun i H => ∃ (xs : List V) (x : V), SqT K H a xs ∧ xs[i]? = some x, fun i H v H' => ∃ T x, v = .ref T ∧ H T = none ∧ H' = upd H T (.tup [.int (i : Nat), x]) ∧ ∀ xs, SqT K H a xs → xs[i]? = some x, fun i H => ∃ xs : List V, SqT K H a xs ∧ xs.length ≤ i⟩
theorem turn_enumT {P : Program} {w : World} {K : PySem.W.Frag} {elts : List Expr} {kk : Nat} {tpos : Pos} (a e it : Addr) (hae : a ≠ e) (hai : a ≠ it) :
    Turn P w K (.Tuple elts kk tpos) (IteT K a) [e, it] e (fun i h => (∃ old, IsEnum h e it ((i : Nat) : Int) old) ∧ h.IsTupleIter it a i ∧ e ≠ it) where
  mem := by simp
  obj := fun i h st b hb => by
    obtain ⟨⟨old, he⟩, ⟨o, ho, hc, hd⟩, _⟩ := st
    have e' : b = e ∨ b = it := by simpa using hb
    rcases e' with z | z
    · rw [z]; exact ⟨_, he, fun v q => nomatch q⟩
    · rw [z]; exact ⟨o, ho, fun v q => by rw [hd] at q; cases q⟩
  keep := fun i h h' st k => let ⟨⟨old, he⟩, hi, hne⟩ := st; ⟨⟨old, k e (by simp) _ he⟩, hi.at fun o q => k it (by simp) o q, hne⟩
  item := by
    intro X hP hw hK hc i pins s σ H E I hf st hg
    subst hP hw hK
    obtain ⟨⟨old, he⟩, hit, hne⟩ := st
    obtain ⟨xs, x, hq, hx⟩ := hg
    obtain ⟨its, rv, p, hz⟩ := I.tuple hq
    obtain ⟨u, hu, ru⟩ := rv.get hx
    have hel : e < s.heap.objs.size := Heap.lt_size he
    have hil : it < s.heap.objs.size := by obtain ⟨_, q, _⟩ := hit; exact Heap.lt_size q
    have hlt : i < its.toArray.size := by rw [List.size_toArray]; exact (List.getElem?_eq_some_iff.mp hu).1
    refine wpAny_pyNext_enum_itemD (Draws.tuple (A := X.A.in1) (show X.A.in1.handled = none from I.ok.hd hc) it a hai its.toArray) he ⟨hit, p⟩ hlt hne (by simp [hne, Ne.symm hae]) fun x1 h' tk px ho st' hT hsz hk => ?_
    obtain ⟨hit', _⟩ := st'
    have ex1 : x1 = u := by
      rw [List.getElem?_toArray, hu] at px
      exact (Option.some.inj px).symm
    subst ex1
    refine ⟨_, rfl, wpAny_letOwnedTupleGo_enum (s := { s with heap := h', toks := tk + 1 }) ho fun h'' he' sb => ?_⟩
    have hT2 : h''.get? s.heap.objs.size = some { cls := .type "tuple", data := .seq #[.int i tk, x1] } := (sb.2 _ (Nat.ne_of_gt hel)).trans hT
    have new : ObjOk X.prog X.w (upd H s.heap.objs.size (.tup [.int (i : Nat), x])) h'' s.heap.objs.size (.tup [.int (i : Nat), x]) :=
      ⟨by show 2 ≤ sizeLine; decide, [.int i tk, x1], .cons ⟨_, rfl⟩ (.cons ru .nil), ⟨_, hT2, rfl, _, rfl⟩⟩
    have I1 : Inv X pins σ (upd H s.heap.objs.size (.tup [.int (i : Nat), x])) { s with heap := h'', toks := tk + 1 } :=
      I.turnedNew (ch := [e, it]) (fun b ob hb q => (sb.2 b (fun z => hb (by simp [z]))).trans (hk b ob (fun z => hb (by simp [z])) (fun z => hb (by simp [z])) q)) hf (Nat.le_refl _) new
    refine ⟨.ref s.heap.objs.size, _, I1, rfl, ⟨_, x, rfl, I.hok.fresh (Nat.le_refl _), rfl, fun ys hy => by rw [I.tuple_inj hy hq]; exact hx⟩, ⟨⟨x1, ?_⟩, hit'.at fun o q => (sb.2 it (Ne.symm hne)).trans q, hne⟩, fun b hb => ?_⟩
    · rw [show ((i + 1 : Nat) : Int) = (i : Int) + 1 by omega]; exact he'
    · have hb' : b < s.heap.objs.size := by
        rcases (by simpa using hb : b = e ∨ b = it) with z | z
        · rw [z]; exact hel
        · rw [z]; exact hil
      rw [upd_ne (Nat.ne_of_lt hb')]; exact (hf b hb).1
  done := by
    intro X hP hw hK hc i pins s σ H E I hf st hg
    subst hP hw hK
    obtain ⟨⟨old, he⟩, hit, hne⟩ := st
    obtain ⟨xs, hq, hx⟩ := hg
    obtain ⟨its, rv, p, hz⟩ := I.tuple hq
    obtain ⟨f0, f1, f2, f3, f4, f5⟩ := hf it (by simp)
    have hl := rv.length
    have hno : (its.toArray)[i]? = none := by rw [List.getElem?_toArray, List.getElem?_eq_none_iff]; omega
    have D : Draws X.prog X.w X.A.in1 it [it, a] i (fun _ _ => True) (fun j h => j = i ∧ h.IsTupleIter it a i ∧ h.IsTuple a its.toArray) :=
      ⟨fun _ _ st => ⟨_, st.2.1.choose_spec.1⟩, fun _ _ _ st hk => ⟨st.1, st.2.1.at fun o q => hk it (by simp) o q, st.2.2.at fun o q => hk a (by simp) o q⟩,
        fun j s Q E hj st _ => absurd st.1 (Nat.ne_of_lt hj), fun s Q E st hE => wpAny_nextOf_tuple_end (show X.A.in1.handled = none from I.ok.hd hc) st.2.1 st.2.2 hno hE⟩
    exact wpAny_pyNext_enum_endD D he ⟨rfl, hit, p⟩ fun h' eb => ⟨rfl, I.turned (t' := s.toks) (fun b o hb q => eb b o hb q) f0 f1 f3 f4 f5⟩
  self := fun A i s Q E st h => let ⟨⟨_, he⟩, _⟩ := st; wpAny_pyIter_enum he h
def iEnumT (K : PySem.W.Frag) (ta : TA) : TI := fun σ H R => ta σ H fun vs H1 => ∃ a xs, vs = [.ref a] ∧ SqT K H1 a xs ∧ R (IteT K a) H1
theorem pi_enumT {X : Cx} {e : Expr} {ta : TA} {p pos tpos : Pos} {elts : List Expr} {kk : Nat} (hg : Gl X "enumerate") (hm : X.mg "enumerate" = none) (ha : PA X [e] ta) (hs : starEach [e] X.env = [(false, eval e X.env)] := by rfl) :
    PI X (.Tuple elts kk tpos) (.Call (.Name "enumerate" p) [e] [] pos) (iEnumT X.K ta) := by
  refine ⟨fun pins s σ H R I h => ?_⟩
  refine Call_ (ld_blt I hg hm boot_enumerate (PyProof.Rows.callWith_type1 (thn (ha.run pos pins s σ H _ I h) fun us s1 ⟨vs, H1, I1, r1, a, xs, ex, hq, q⟩ => ?_) hs rfl))
  subst ex
  obtain rfl := Vals.ref1 r1
  obtain ⟨its, rv, p', hz⟩ := I1.tuple hq
  have hal : a < s1.heap.objs.size := by obtain ⟨_, z, _⟩ := p'; exact Heap.lt_size z
  refine call_enum1 (begins_tuple a its.toArray) (show s1.heap.IsTuple a its.toArray from p') fun h' he hit hk => wpAny_pyIter_enum he ?_
  have I2 : Inv X pins σ H1 { s1 with heap := h' } := I1.kept (t' := s1.toks) hk
  refine ⟨s1.heap.objs.size + 1, [s1.heap.objs.size + 1, s1.heap.objs.size], _, _, H1, rfl, I2, turn_enumT a (s1.heap.objs.size + 1) s1.heap.objs.size (Nat.ne_of_lt (Nat.lt_succ_of_lt hal)) (Nat.ne_of_lt hal), ⟨⟨.none, he⟩, ⟨_, hit, rfl, rfl⟩, Nat.succ_ne_self _⟩, fun b hb => ?_, q⟩
  have hle : s1.heap.objs.size ≤ b := by
    rcases (by simpa using hb : b = s1.heap.objs.size + 1 ∨ b = s1.heap.objs.size) with z | z
    · rw [z]; exact Nat.le_add_right _ _
    · rw [z]; exact Nat.le_refl _
  exact I1.fpOk hle (I1.hok.fresh hle)
theorem walk_enumT {K : PySem.W.Frag} {a : Addr} {xs : List V} : Walk (IteT K a) xs.length (fun H => SqT K H a xs) (YPair (fun i => some (.int (i : Nat))) (fun i => xs[i]?)) := by
  refine ⟨fun i _ hi q => ⟨xs, xs[i], q, by simp [hi]⟩, fun _ q => ⟨xs, q, Nat.le_refl _⟩, fun i H v H' _ q y => ?_⟩
  obtain ⟨T, x, h1, h2, h3, h4⟩ := y
  exact ⟨T, .int (i : Nat), x, h1, h2, h3, rfl, h4 xs q⟩
end My
set_option maxRecDepth 100000
set_option maxHeartbeats 4000000
namespace My
open PySem L2
def top (i : Nat) : Stmt := PySem.Challenge.pw_unbrokenrows_k06_grids.main.body.getD i (.Pass ⟨0, 0, 0, 0⟩)
abbrev s_BadOrder_init : Stmt := inClass (top 7) 0
abbrev s_is_name : Stmt := top 10
abbrev s_first_bad_name : Stmt := top 11
abbrev s_first_stray : Stmt := top 12
abbrev s_order_fault : Stmt := top 14
abbrev s_count_runs : Stmt := top 15
abbrev s_runs_of : Stmt := top 16
abbrev s_check_order : Stmt := top 17
abbrev s_check_columns : Stmt := top 19
abbrev s_check_rows : Stmt := top 20
abbrev s_Table_in_order : Stmt := inClass (top 21) 3
abbrev s_Table_init : Stmt := inClass (top 21) 2
abbrev s_Table_len : Stmt := inClass (top 21) 19
abbrev s_Table_iter : Stmt := inClass (top 21) 20
abbrev s_filled : Stmt := top 24
abbrev s_grid : Stmt := top 23
abbrev s_law_cell : Stmt := top 26
abbrev s_law_pool : Stmt := top 27
abbrev s_law_word : Stmt := top 28
abbrev s_law_new : Stmt := top 29
abbrev s_law_sequence : Stmt := top 30
abbrev s_law_names : Stmt := top 31
abbrev s_law_rows : Stmt := top 32
abbrev s_law_filled : Stmt := top 33
abbrev s_law_picture : Stmt := top 34
abbrev s_law_grid_is : Stmt := top 35
abbrev s_law_refused : Stmt := top 36
abbrev s_law : Stmt := top 37
theorem ss_BadOrder_init : SupScope ["self", "index"] ["self", "index"] (defScope s_BadOrder_init) := ⟨rfl, rfl, rfl, by decide +kernel, rfl, by decide +kernel, by decide +kernel, by decide +kernel, rfl, rfl⟩
theorem sc_is_name : FnScope ["text", "sign"] ["text"] (defScope s_is_name) := ⟨rfl, rfl, rfl, by decide +kernel, rfl, by decide +kernel, by decide +kernel⟩
theorem sc_first_bad_name : FnScope ["names", "index", "name"] ["names"] (defScope s_first_bad_name) := ⟨rfl, rfl, rfl, by decide +kernel, rfl, by decide +kernel, by decide +kernel⟩
theorem sc_first_stray : FnScope ["columns", "names", "index", "name"] ["columns", "names"] (defScope s_first_stray) := ⟨rfl, rfl, rfl, by decide +kernel, rfl, by decide +kernel, by decide +kernel⟩
theorem sc_order_fault : FnScope ["columns", "order", "index"] ["columns", "order"] (defScope s_order_fault) := ⟨rfl, rfl, rfl, by decide +kernel, rfl, by decide +kernel, by decide +kernel⟩
theorem sc_count_runs : FnScope ["flags", "at", "flag"] ["flags"] (defScope s_count_runs) := ⟨rfl, rfl, rfl, by decide +kernel, rfl, by decide +kernel, by decide +kernel⟩
theorem sc_runs_of : FnScope ["row", "order", "name"] ["row", "order"] (defScope s_runs_of) := ⟨rfl, rfl, rfl, by decide +kernel, rfl, by decide +kernel, by decide +kernel⟩
theorem sc_check_order : FnScope ["table", "order", "index"] ["table", "order"] (defScope s_check_order) := ⟨rfl, rfl, rfl, by decide +kernel, rfl, by decide +kernel, by decide +kernel⟩
theorem sc_check_columns : FnScope ["columns", "index"] ["columns"] (defScope s_check_columns) := ⟨rfl, rfl, rfl, by decide +kernel, rfl, by decide +kernel, by decide +kernel⟩
theorem sc_check_rows : FnScope ["columns", "rows", "index", "row"] ["columns", "rows"] (defScope s_check_rows) := ⟨rfl, rfl, rfl, by decide +kernel, rfl, by decide +kernel, by decide +kernel⟩
theorem sc_Table_in_order : FnScope ["self", "names", "name"] ["self", "names"] (defScope s_Table_in_order) := ⟨rfl, rfl, rfl, by decide +kernel, rfl, by decide +kernel, by decide +kernel⟩
theorem sc_Table_init : FnScope ["self", "columns", "rows", "row"] ["self", "columns", "rows"] (defScope s_Table_init) := ⟨rfl, rfl, rfl, by decide +kernel, rfl, by decide +kernel, by decide +kernel⟩
theorem sc_Table_len : FnScope ["self"] ["self"] (defScope s_Table_len) := ⟨rfl, rfl, rfl, by decide +kernel, rfl, by decide +kernel, by decide +kernel⟩
theorem sc_Table_iter : FnScope ["self"] ["self"] (defScope s_Table_iter) := ⟨rfl, rfl, rfl, by decide +kernel, rfl, by decide +kernel, by decide +kernel⟩
theorem sc_filled : FnScope ["words", "width", "word"] ["words", "width"] (defScope s_filled) := ⟨rfl, rfl, rfl, by decide +kernel, rfl, by decide +kernel, by decide +kernel⟩
theorem sc_grid : FnScope ["table", "order", "width", "lines", "row", "signs", "runs", "name"] ["table", "order"] (defScope s_grid) := ⟨rfl, rfl, rfl, by decide +kernel, rfl, by decide +kernel, by decide +kernel⟩
theorem sc_law_cell : FnScope ["script", "k"] ["script", "k"] (defScope s_law_cell) := ⟨rfl, rfl, rfl, by decide +kernel, rfl, by decide +kernel, by decide +kernel⟩
theorem sc_law_pool : FnScope ["script", "k", "count", "value", "pool", "i", "first", "second", "third"] ["script", "k", "count"] (defScope s_law_pool) := ⟨rfl, rfl, rfl, by decide +kernel, rfl, by decide +kernel, by decide +kernel⟩
theorem sc_law_word : FnScope ["pool", "at", "code", "size", "word", "i"] ["pool", "at"] (defScope s_law_word) := ⟨rfl, rfl, rfl, by decide +kernel, rfl, by decide +kernel, by decide +kernel⟩
theorem sc_law_new : FnScope ["names", "word", "letters", "turn"] ["names", "word"] (defScope s_law_new) := ⟨rfl, rfl, rfl, by decide +kernel, rfl, by decide +kernel, by decide +kernel⟩
theorem sc_law_sequence : FnScope ["names", "draw", "left", "row", "k", "pick"] ["names", "draw"] (defScope s_law_sequence) := ⟨rfl, rfl, rfl, by decide +kernel, rfl, by decide +kernel, by decide +kernel⟩
theorem sc_law_names : FnScope ["pool", "columns", "k", "word"] ["pool"] (defScope s_law_names) := ⟨rfl, rfl, rfl, by decide +kernel, rfl, by decide +kernel, by decide +kernel⟩
theorem sc_law_rows : FnScope ["columns", "order", "pool", "count", "rows", "i", "bits", "row", "left", "name", "first"] ["columns", "order", "pool", "count"] (defScope s_law_rows) := ⟨rfl, rfl, rfl, by decide +kernel, rfl, by decide +kernel, by decide +kernel⟩
theorem sc_law_filled : FnScope ["words", "wide", "word"] ["words", "wide"] (defScope s_law_filled) := ⟨rfl, rfl, rfl, by decide +kernel, rfl, by decide +kernel, by decide +kernel⟩
theorem sc_law_picture : FnScope ["columns", "rows", "order", "wide", "lines", "row", "begun", "marks", "k", "name"] ["columns", "rows", "order"] (defScope s_law_picture) := ⟨rfl, rfl, rfl, by decide +kernel, rfl, by decide +kernel, by decide +kernel⟩
theorem sc_law_grid_is : FnScope ["table", "columns", "rows", "order", "due", "given", "found"] ["table", "columns", "rows", "order"] (defScope s_law_grid_is) := ⟨rfl, rfl, rfl, by decide +kernel, rfl, by decide +kernel, by decide +kernel⟩
theorem sc_law_refused : FnScope ["table", "columns", "order", "wrong", "found", "told", "kinds", "e", "k"] ["table", "columns", "order"] (defScope s_law_refused) := ⟨rfl, rfl, rfl, by decide +kernel, rfl, by decide +kernel, by decide +kernel⟩
theorem sc_law : FnScope ["script", "pool", "other", "columns", "order", "rows", "base", "table", "stranger", "k", "j", "more", "row", "name"] ["script"] (defScope s_law) := ⟨rfl, rfl, rfl, by decide +kernel, rfl, by decide +kernel, by decide +kernel⟩
theorem hu10 {A : Around} {k : Nat} (hr : Room k A) : A.units + 10 < cLine := by have := hr.un; omega
/-- text * int -/
theorem op_mulS {X : Cx} : OpR X (binaryOp .Mult) (fun x y H Q => ∃ (z : Str) (n : Int), x = .str z ∧ y = .int n ∧ MulOk z n ∧ Q (.str (Txt.mul z n)) H) := by
  intro pins s σ H x y v u Q I rx ry h
  obtain ⟨z, n, rfl, rfl, ok, q⟩ := h
  obtain ⟨t, rfl⟩ := rx
  obtain ⟨t', rfl⟩ := ry
  exact PySem.SB.mul ok fun t' k => ⟨.str (Txt.mul z n), H, I.tok _, ⟨_, rfl⟩, q⟩
def rLen2 (K : PySem.W.Frag) : List V → Hp → VK → Prop := fun xs H Q => ∃ p ys, xs = [.ref p] ∧ (SqL K H p ys ∨ SqT K H p ys) ∧ Q (.int ys.length) H
def rListOf (K : PySem.W.Frag) : List V → Hp → VK → Prop := fun xs H Q => ∃ p ys, xs = [.ref p] ∧ (SqL K H p ys ∨ SqT K H p ys) ∧ ∀ l, H l = none → Q (.ref l) (upd H l (.lst ys))
def rTupOf (K : PySem.W.Frag) : List V → Hp → VK → Prop := fun xs H Q => ∃ p ys, xs = [.ref p] ∧ ((SqL K H p ys ∧ ∀ l, H l = none → Q (.ref l) (upd H l (.tup ys))) ∨ (SqT K H p ys ∧ Q (.ref p) H))
/-! ### texts in lists -/
abbrev sv (ss : List Str) : List V := ss.map V.str
theorem len_sv (ss : List Str) : (sv ss).length = ss.length := List.length_map ..
theorem flat_sv (ss : List Str) : (sv ss).all flatV = true := by
  rw [List.all_eq_true]; intro x hx; obtain ⟨s, _, rfl⟩ := List.mem_map.mp hx; rfl
theorem eqV_str (a b : Str) : eqV (.str a) (.str b) = decide (a = b) := by
  first | rfl | (simp only [eqV]; by_cases h : a = b <;> simp [h])
theorem inV_str (x : Str) (ss : List Str) : inV (.str x) (sv ss) = decide (x ∈ ss) := by
  unfold inV
  rw [Bool.eq_iff_iff, List.any_eq_true, decide_eq_true_iff]
  constructor
  · rintro ⟨y, hy, e⟩
    obtain ⟨s, hs, rfl⟩ := List.mem_map.mp hy
    rw [eqV_str, decide_eq_true_iff] at e
    rw [← e]; exact hs
  · intro h
    exact ⟨.str x, List.mem_map.mpr ⟨x, h, rfl⟩, by rw [eqV_str]; simp⟩
theorem sv_get {ss : List Str} {i : Nat} {v : V} (h : (sv ss)[i]? = some v) : ∃ s, ss[i]? = some s ∧ v = .str s := by
  rw [List.getElem?_map] at h
  cases e : ss[i]? with
  | none => rw [e] at h; cases h
  | some t => rw [e] at h; exact ⟨t, rfl, (Option.some.inj h).symm⟩
theorem cut_take {xs : List V} {k : Nat} (h : k ≤ xs.length) : cutV xs none (some (k : Int)) = xs.take k := by
  unfold cutV
  rw [HT.sIx_none, HT.sIx_nat, Nat.min_eq_left h]
  simp
theorem cut_drop {xs : List V} {k : Nat} (h : k ≤ xs.length) : cutV xs (some (k : Int)) none = xs.drop k := by
  unfold cutV
  rw [HT.sIx_none, HT.sIx_nat, Nat.min_eq_left h]
  rw [List.take_of_length_le (by rw [List.length_drop]; exact Nat.le_refl _)]
theorem sv_take (ss : List Str) (k : Nat) : (sv ss).take k = sv (ss.take k) := List.map_take.symm
theorem sv_drop (ss : List Str) (k : Nat) : (sv ss).drop k = sv (ss.drop k) := List.map_drop.symm
/-! ### names -/
def Letters (l : List Nat) : Prop := ∀ c ∈ l, 97 ≤ c ∧ c ≤ 122
structure Good (z : Str) : Prop where
  pos : 1 ≤ z.length
  le : z.length ≤ 8
  let_ : Letters z.cps.toList
/-! ### the first stray of a list -/
def badAt (cs ns : List Str) (i : Nat) : Bool := match ns[i]? with | some x => !decide (x ∈ cs) || decide (x ∈ ns.take i) | none => false
def stray (cs ns : List Str) : Option Nat := (List.range ns.length).find? (badAt cs ns)
def fault (cs ns : List Str) : Option Nat := match stray cs ns with | some i => some i | none => if ns.length < cs.length then some ns.length else none
def optV : Option Nat → V
  | none => .non
  | some i => .int (i : Nat)
theorem stray_some {cs ns : List Str} {i : Nat} (hi : i < ns.length) (h1 : badAt cs ns i = true) (h2 : ∀ j, j < i → badAt cs ns j = false) : stray cs ns = some i := by
  unfold stray
  rw [List.find?_range_eq_some]
  exact ⟨h1, List.mem_range.mpr hi, fun j hj => by rw [h2 j hj]; rfl⟩
theorem stray_none {cs ns : List Str} (h2 : ∀ j, j < ns.length → badAt cs ns j = false) : stray cs ns = none := by
  unfold stray
  rw [List.find?_eq_none]
  intro j hj
  rw [h2 j (List.mem_range.mp hj)]
  exact Bool.false_ne_true
theorem stray_none_iff {cs ns : List Str} : stray cs ns = none ↔ (∀ x ∈ ns, x ∈ cs) ∧ ns.Nodup := by
  unfold stray
  rw [List.find?_eq_none]
  constructor
  · intro h
    have hb : ∀ i (hi : i < ns.length), ns[i] ∈ cs ∧ ns[i] ∉ ns.take i := fun i hi => by
      have := h i (List.mem_range.mpr hi)
      unfold badAt at this
      rw [List.getElem?_eq_getElem hi] at this
      simpa using this
    refine ⟨fun x hx => ?_, ?_⟩
    · obtain ⟨i, hi, rfl⟩ := List.getElem_of_mem hx
      exact (hb i hi).1
    · rw [List.nodup_iff_pairwise_ne, List.pairwise_iff_getElem]
      intro i j hi hj hij e
      refine (hb j hj).2 ?_
      rw [← e]
      exact List.mem_take_iff_getElem.mpr ⟨i, by omega, rfl⟩
  · rintro ⟨h1, h2⟩ i hi
    have hi := List.mem_range.mp hi
    unfold badAt
    rw [List.getElem?_eq_getElem hi]
    have a := h1 _ (List.getElem_mem hi)
    have b : ns[i] ∉ ns.take i := fun hm => by
      obtain ⟨j, hj, e⟩ := List.mem_take_iff_getElem.mp hm
      rw [List.nodup_iff_pairwise_ne, List.pairwise_iff_getElem] at h2
      exact h2 j i (by omega) hi (by omega) e
    simp [a, b]
theorem fault_none {cs ns : List Str} (h1 : ∀ x ∈ ns, x ∈ cs) (h2 : ns.Nodup) (h3 : cs.length ≤ ns.length) : fault cs ns = none := by
  unfold fault
  rw [stray_none_iff.mpr ⟨h1, h2⟩]
  show (if ns.length < cs.length then _ else _) = _
  rw [if_neg (by omega)]
/-- the law's list of what is wrong -/
def wrongs (cs ns : List Str) : List Nat := (List.range ns.length).filter (badAt cs ns) ++ if ns.length < cs.length then [ns.length] else []
theorem wrongs_head (cs ns : List Str) : (wrongs cs ns).head? = fault cs ns := by
  unfold wrongs fault stray
  rw [List.head?_append, List.head?_filter]
  cases (List.range ns.length).find? (badAt cs ns) with
  | some i => rfl
  | none =>
    show Option.or none _ = (if _ then _ else _)
    split <;> rfl
/-! ### runs -/
def runAt (fl : List Bool) (i : Nat) : Bool := fl.getD i false && !(decide (0 < i) && fl.getD (i - 1) false)
def runs (fl : List Bool) : Nat := ((List.range fl.length).filter (runAt fl)).length
theorem runs_le (fl : List Bool) : runs fl ≤ fl.length := by
  unfold runs
  have := List.length_filter_le (runAt fl) (List.range fl.length)
  rw [List.length_range] at this
  exact this
/-! ### the picture -/
theorem mul_len (n : Int) : (Txt.mul (" " : Str) n).length = n.toNat := by
  unfold Txt.mul
  have h1 : ((" " : Str).length == 0) = false := by decide
  split
  · rename_i h
    show 0 = n.toNat
    omega
  · rename_i h
    split
    · rename_i h'
      rw [h1, Bool.or_false, beq_iff_eq] at h'
      subst h'
      rfl
    · have e : ∀ (m : Nat) (acc : Array Nat), ((List.replicate m (" " : Str).cps).foldl (· ++ ·) acc).size = acc.size + m := by
        intro m
        induction m with
        | zero => intro acc; rfl
        | succ m ih =>
          intro acc
          rw [List.replicate_succ, List.foldl_cons, ih, Array.size_append]
          have : (" " : Str).cps.size = 1 := by decide
          rw [this]; omega
      show ((List.replicate n.toNat (" " : Str).cps).foldl (· ++ ·) #[]).size = n.toNat
      rw [e]
      show 0 + n.toNat = _
      omega
theorem mul_cps (n : Int) : (Txt.mul (" " : Str) n).cps = Array.replicate n.toNat 32 := by
  unfold Txt.mul
  have h1 : ((" " : Str).length == 0) = false := by decide
  split
  · rename_i h
    have : n.toNat = 0 := by omega
    rw [this]
    rfl
  · rename_i h
    split
    · rename_i h'
      rw [h1, Bool.or_false, beq_iff_eq] at h'
      subst h'
      decide
    · have e : ∀ (m : Nat) (acc : Array Nat), ((List.replicate m (" " : Str).cps).foldl (· ++ ·) acc) = acc ++ Array.replicate m 32 := by
        intro m
        induction m with
        | zero => intro acc; simp
        | succ m ih =>
          intro acc
          rw [List.replicate_succ, List.foldl_cons, ih]
          have : (" " : Str).cps = #[32] := by decide
          rw [this, Array.append_assoc]
          congr 1
          apply Array.toList_inj.mp
          simp [List.replicate_succ]
      show ((List.replicate n.toNat (" " : Str).cps).foldl (· ++ ·) #[]) = _
      rw [e]
      simp
theorem str_ext {a b : Str} (h : a.cps = b.cps) : a = b := by cases a; cases b; exact congrArg Str.mk h
theorem append_cps (a b : Str) : (a ++ b).cps = a.cps ++ b.cps := rfl
theorem ljust_eq (x : Str) (W : Int) : Txt.ljust x W = x ++ Txt.mul " " (W - x.length) := by
  apply str_ext
  rw [append_cps, mul_cps]
  unfold Txt.ljust
  split
  · rename_i h
    have : (W - (x.length : Int)).toNat = 0 := by omega
    rw [this]; simp
  · rename_i h
    have : W.toNat - x.length = (W - (x.length : Int)).toNat := by omega
    rw [this]
    show Array.replicate 0 32 ++ x.cps ++ Array.replicate _ 32 = _
    simp
theorem ljust_len (x : Str) (W : Int) : (Txt.ljust x W).length = x.length + (W - x.length).toNat := by
  rw [ljust_eq, Str.length_append, mul_len]
def fill (ws : List Str) (W : Int) : Str := Txt.join " " (ws.map fun x => Txt.ljust x W)
def marks (order row : List Str) : List Str := order.map fun x => if x ∈ row then ("x" : Str) else "."
def flags (order row : List Str) : List Bool := order.map fun x => decide (x ∈ row)
def num4 (n : Nat) : Str := Txt.rjust (Str.ofString (toString (n : Int))) 4
def line (order : List Str) (W : Int) (row : List Str) : Str := fill (marks order row) W ++ num4 (runs (flags order row))
def pic (order : List Str) (rows : List (List Str)) (W : Int) : Str := Txt.join "\n" (fill order W :: rows.map (line order W))
theorem num_small : ∀ n : Fin 13, (Str.ofString (toString ((n.val : Nat) : Int))).length ≤ 4 := by decide +kernel
theorem num4_len {n : Nat} (h : n ≤ 12) : (num4 n).length = 4 := by
  have hl : (Str.ofString (toString (n : Int))).length ≤ 4 := num_small ⟨n, by omega⟩
  unfold num4 Txt.rjust
  generalize Str.ofString (toString (n : Int)) = x at hl ⊢
  split
  · rename_i h4; omega
  · show (Array.replicate _ 32 ++ x.cps ++ Array.replicate 0 32).size = 4
    simp
    show (4 : Int).toNat - x.length + x.length = 4
    omega
theorem cut4 {s : Str} (h : s.length ≤ 4) : cutS (("    " : Str) ++ s) (some (-4)) none = Txt.rjust s 4 := by
  apply str_ext
  unfold cutS Txt.rjust
  have hl : (("    " : Str) ++ s).length = 4 + s.length := by rw [Str.length_append]; rfl
  have h1 : HT.sIx (("    " : Str) ++ s).length 0 (some (-4)) = s.length := by
    rw [hl]
    show (if (-4 : Int) < 0 then ((-4 : Int) + ((4 + s.length : Nat) : Int)).toNat else min (-4 : Int).toNat (4 + s.length)) = s.length
    rw [if_pos (by decide)]; omega
  rw [h1, HT.sIx_none, hl]
  have e4 : (("    " : Str)).cps.toList = List.replicate 4 32 := by decide
  apply Array.toList_inj.mp
  rw [append_cps, Array.toList_append, e4]
  have h5 : 4 + s.length - s.length = 4 := by omega
  rw [h5]
  have hs : s.cps.toList.length = s.length := by simp [Str.length]
  have e6 : (List.replicate 4 32 ++ s.cps.toList).drop s.length = List.replicate (4 - s.length) 32 ++ s.cps.toList := by
    rw [List.drop_append_of_le_length (by simp; exact h), List.drop_replicate]
  rw [e6, List.take_of_length_le (by rw [List.length_append, List.length_replicate, hs]; omega)]
  split
  · rename_i h4
    have : 4 - s.length = 0 := by omega
    rw [this]; rfl
  · show _ = (Array.replicate ((4 : Int).toNat - s.length) 32 ++ s.cps ++ Array.replicate 0 32).toList
    simp
/-! ### lengths -/
theorem sum_le {ys : List Nat} {B : Nat} (h : ∀ y ∈ ys, y ≤ B) : ys.sum ≤ ys.length * B := by
  induction ys with
  | nil => simp
  | cons y r ih =>
    have h1 := h y List.mem_cons_self
    have h2 := ih fun x hx => h x (List.mem_cons_of_mem _ hx)
    rw [List.sum_cons, List.length_cons, Nat.succ_mul]
    omega
theorem join_len (a : Str) : ∀ ys : List Str, (Txt.join a ys).length ≤ (ys.map (·.length)).sum + ys.length * a.length
  | [] => by
    show (Txt.join a []).length ≤ 0 + 0 * a.length
    have : (Txt.join a []).length = 0 := rfl
    omega
  | [x] => by
    have : Txt.join a [x] = x := by rw [TL.join_eq]; rfl
    rw [this]
    simp
  | x :: y :: r => by
    have e : Txt.join a (x :: y :: r) = x ++ a ++ Txt.join a (y :: r) := by rw [TL.join_eq, TL.join_eq]; rfl
    have ih := join_len a (y :: r)
    rw [e, Str.length_append, Str.length_append, List.map_cons, List.sum_cons, List.length_cons, Nat.succ_mul]
    omega
theorem fits_join {a : Str} {ys : List Str} {B n : Nat} (h : ∀ y ∈ ys, y.length ≤ B) (hn : ys.length ≤ n) (hs : n * (B + a.length) ≤ 16777216) : (ys.map (·.length)).sum + ys.length * a.length ≤ 16777216 ∧ (Txt.join a ys).length ≤ n * (B + a.length) := by
  have h1 : (ys.map (·.length)).sum ≤ (ys.map (·.length)).length * B := sum_le fun y hy => by
    obtain ⟨z, hz, rfl⟩ := List.mem_map.mp hy
    exact h z hz
  rw [List.length_map] at h1
  have h2 := join_len a ys
  have h3 : ys.length * (B + a.length) ≤ n * (B + a.length) := Nat.mul_le_mul_right _ hn
  rw [Nat.mul_add] at h3
  omega
end My
set_option maxRecDepth 100000
set_option maxHeartbeats 4000000
namespace My
open PySem L2
/-- where the defs and classes stand -/
structure Ad where
  C_Table : Addr
  C_RowsError : Addr
  C_Unknown : Addr
  C_Impossible : Addr
  C_BadOrder : Addr
  a_BadOrder_init : Addr
  d_BadOrder_init : FuncData
  a_is_name : Addr
  d_is_name : FuncData
  a_first_bad_name : Addr
  d_first_bad_name : FuncData
  a_first_stray : Addr
  d_first_stray : FuncData
  a_order_fault : Addr
  d_order_fault : FuncData
  a_count_runs : Addr
  d_count_runs : FuncData
  a_runs_of : Addr
  d_runs_of : FuncData
  a_check_order : Addr
  d_check_order : FuncData
  a_check_columns : Addr
  d_check_columns : FuncData
  a_check_rows : Addr
  d_check_rows : FuncData
  a_Table_in_order : Addr
  d_Table_in_order : FuncData
  a_Table_init : Addr
  d_Table_init : FuncData
  a_Table_len : Addr
  d_Table_len : FuncData
  a_Table_iter : Addr
  d_Table_iter : FuncData
  a_filled : Addr
  d_filled : FuncData
  a_grid : Addr
  d_grid : FuncData
  a_law_cell : Addr
  d_law_cell : FuncData
  a_law_pool : Addr
  d_law_pool : FuncData
  a_law_word : Addr
  d_law_word : FuncData
  a_law_new : Addr
  d_law_new : FuncData
  a_law_sequence : Addr
  d_law_sequence : FuncData
  a_law_names : Addr
  d_law_names : FuncData
  a_law_rows : Addr
  d_law_rows : FuncData
  a_law_filled : Addr
  d_law_filled : FuncData
  a_law_picture : Addr
  d_law_picture : FuncData
  a_law_grid_is : Addr
  d_law_grid_is : FuncData
  a_law_refused : Addr
  d_law_refused : FuncData
  a_law : Addr
  d_law : FuncData
  e_Table_init : Addr
/-- what the top has written -/
structure Txt (P : Program) (K : PySem.W.Frag) (mg : Str → Option Value) (A : Ad) : Prop where
  mg_Table : mg "Table" = some (.ref A.C_Table)
  cl_Table : Cls K A.C_Table
  sf_Table : PySem.W.selfFirst K A.C_Table = true
  mk_Table : Mk K A.C_Table A.a_Table_init
  c1_Table : PySem.W.findIn K (.ref A.C_Table) "__class__" = some (some (.builtin "object.__class__"))
  c3_Table : PySem.W.mroIn K A.C_Table (.type "object") = some true
  n_Table_columns : NoAttr K A.C_Table "columns"
  n_Table_rows : NoAttr K A.C_Table "rows"
  c2 : PySem.W.specialIn K (.builtin "object.__class__") "__get__" = some (some (.builtin "getset_descriptor.__get__"))
  c4 : PySem.W.takesIn K (.builtin "object.__class__") = some true
  mg_RowsError : mg "RowsError" = some (.ref A.C_RowsError)
  tp_RowsError : PySem.W.typeIn K (.ref A.C_RowsError) = some (.type "type")
  ic_RowsError : PySem.W.isClsIn K A.C_RowsError = true
  mg_Unknown : mg "Unknown" = some (.ref A.C_Unknown)
  tp_Unknown : PySem.W.typeIn K (.ref A.C_Unknown) = some (.type "type")
  ic_Unknown : PySem.W.isClsIn K A.C_Unknown = true
  mg_Impossible : mg "Impossible" = some (.ref A.C_Impossible)
  tp_Impossible : PySem.W.typeIn K (.ref A.C_Impossible) = some (.type "type")
  ic_Impossible : PySem.W.isClsIn K A.C_Impossible = true
  mg_BadOrder : mg "BadOrder" = some (.ref A.C_BadOrder)
  tp_BadOrder : PySem.W.typeIn K (.ref A.C_BadOrder) = some (.type "type")
  ic_BadOrder : PySem.W.isClsIn K A.C_BadOrder = true
  SC_BadOrder : SupCls P K mg A.C_BadOrder
  SF_BadOrder : SupFn P K s_BadOrder_init "BadOrder.__init__" A.C_BadOrder A.a_BadOrder_init A.d_BadOrder_init
  ii_BadOrder : PySem.W.findIn K (.ref A.C_BadOrder) "__init__" = some (some (.ref A.a_BadOrder_init))
  ti_BadOrder : PySem.W.typeIn K (.ref A.a_BadOrder_init) = some (.type "function")
  b_BadOrder_init : Binds K A.d_BadOrder_init ["self", "index"] []
  xn_BadOrder_index : PySem.W.findIn K (.ref A.C_BadOrder) "index" = some none
  xf_BadOrder : XfC K A.C_BadOrder
  ec_BadOrder : ExcC K A.C_BadOrder
  k_BadOrder : PySem.W.keepIn K (.ref A.C_BadOrder) = true
  bp_BadOrder : PySem.W.subIn K (.ref A.C_BadOrder) (.type "BaseException") = some true
  sv_BadOrder : PySem.W.subIn K (.ref A.C_BadOrder) (.type "ValueError") = some true
  ss_BadOrder : PySem.W.subIn K (.ref A.C_BadOrder) (.ref A.C_BadOrder) = some true
  su_BadOrder_RowsError : PySem.W.subIn K (.ref A.C_BadOrder) (.ref A.C_RowsError) = some true
  su_BadOrder_Unknown : PySem.W.subIn K (.ref A.C_BadOrder) (.ref A.C_Unknown) = some false
  su_BadOrder_Impossible : PySem.W.subIn K (.ref A.C_BadOrder) (.ref A.C_Impossible) = some false
  e1_BadOrder : PySem.W.findIn K (.ref A.C_BadOrder) "__getattribute__" = some (some (.builtin "BaseException.__getattribute__"))
  e2_BadOrder : PySem.W.findIn K (.ref A.C_BadOrder) "__getattr__" = some none
  e3_BadOrder : PySem.W.hasDictIn K A.C_BadOrder = true
  e4_BadOrder : PySem.W.findIn K (.ref A.C_BadOrder) "__class__" = some (some (.builtin "object.__class__"))
  e5_BadOrder : PySem.W.mroIn K A.C_BadOrder (.type "object") = some true
  mg_LONGEST_NAME : ∃ t : Tok, mg "LONGEST_NAME" = some (.int 8 t)
  cr_Table : ClX.CRead K A.C_Table (.type "type")
  cv_Table_MOST_COLUMNS : ∃ u, ClX.CVal K A.C_Table (.type "type") "MOST_COLUMNS" (.int 12) u
  cv_Table_MOST_ROWS : ∃ u, ClX.CVal K A.C_Table (.type "type") "MOST_ROWS" (.int 48) u
  n_abs : mg "abs" = none
  n_int : mg "int" = none
  n_isinstance : mg "isinstance" = none
  n_range : mg "range" = none
  n_len : mg "len" = none
  n_str : mg "str" = none
  n_tuple : mg "tuple" = none
  n_list : mg "list" = none
  n_ValueError : mg "ValueError" = none
  n_all : mg "all" = none
  n_max : mg "max" = none
  n_enumerate : mg "enumerate" = none
  n_iter : mg "iter" = none
  n_bool : mg "bool" = none
  F_is_name : Fun K "is_name" "is_name" s_is_name A.a_is_name A.d_is_name
  b_is_name : Binds K A.d_is_name ["text"] []
  mg_is_name : mg "is_name" = some (.ref A.a_is_name)
  F_first_bad_name : Fun K "first_bad_name" "first_bad_name" s_first_bad_name A.a_first_bad_name A.d_first_bad_name
  b_first_bad_name : Binds K A.d_first_bad_name ["names"] []
  mg_first_bad_name : mg "first_bad_name" = some (.ref A.a_first_bad_name)
  F_first_stray : Fun K "first_stray" "first_stray" s_first_stray A.a_first_stray A.d_first_stray
  b_first_stray : Binds K A.d_first_stray ["columns", "names"] []
  mg_first_stray : mg "first_stray" = some (.ref A.a_first_stray)
  F_order_fault : Fun K "order_fault" "order_fault" s_order_fault A.a_order_fault A.d_order_fault
  b_order_fault : Binds K A.d_order_fault ["columns", "order"] []
  mg_order_fault : mg "order_fault" = some (.ref A.a_order_fault)
  F_count_runs : Fun K "count_runs" "count_runs" s_count_runs A.a_count_runs A.d_count_runs
  b_count_runs : Binds K A.d_count_runs ["flags"] []
  mg_count_runs : mg "count_runs" = some (.ref A.a_count_runs)
  F_runs_of : Fun K "runs_of" "runs_of" s_runs_of A.a_runs_of A.d_runs_of
  b_runs_of : Binds K A.d_runs_of ["row", "order"] []
  mg_runs_of : mg "runs_of" = some (.ref A.a_runs_of)
  F_check_order : Fun K "check_order" "check_order" s_check_order A.a_check_order A.d_check_order
  b_check_order : Binds K A.d_check_order ["table", "order"] []
  mg_check_order : mg "check_order" = some (.ref A.a_check_order)
  F_check_columns : Fun K "check_columns" "check_columns" s_check_columns A.a_check_columns A.d_check_columns
  b_check_columns : Binds K A.d_check_columns ["columns"] []
  mg_check_columns : mg "check_columns" = some (.ref A.a_check_columns)
  F_check_rows : Fun K "_check_rows" "_check_rows" s_check_rows A.a_check_rows A.d_check_rows
  b_check_rows : Binds K A.d_check_rows ["columns", "rows"] []
  mg_check_rows : mg "_check_rows" = some (.ref A.a_check_rows)
  F_Table_in_order : Fun K "_in_order" "Table._in_order" s_Table_in_order A.a_Table_in_order A.d_Table_in_order
  b_Table_in_order : Binds K A.d_Table_in_order ["self", "names"] []
  m_Table_in_order : Meth K A.C_Table "_in_order" A.a_Table_in_order
  F_Table_init : FunD K "__init__" "Table.__init__" (defArgs s_Table_init) (defBody s_Table_init) (defScope s_Table_init) [.ref A.e_Table_init] [] A.a_Table_init A.d_Table_init
  m_Table_init : Meth K A.C_Table "__init__" A.a_Table_init
  F_Table_len : Fun K "__len__" "Table.__len__" s_Table_len A.a_Table_len A.d_Table_len
  b_Table_len : Binds K A.d_Table_len ["self"] []
  m_Table_len : Meth K A.C_Table "__len__" A.a_Table_len
  F_Table_iter : Fun K "__iter__" "Table.__iter__" s_Table_iter A.a_Table_iter A.d_Table_iter
  b_Table_iter : Binds K A.d_Table_iter ["self"] []
  m_Table_iter : Meth K A.C_Table "__iter__" A.a_Table_iter
  F_filled : Fun K "_filled" "_filled" s_filled A.a_filled A.d_filled
  b_filled : Binds K A.d_filled ["words", "width"] []
  mg_filled : mg "_filled" = some (.ref A.a_filled)
  F_grid : Fun K "grid" "grid" s_grid A.a_grid A.d_grid
  b_grid : Binds K A.d_grid ["table", "order"] []
  mg_grid : mg "grid" = some (.ref A.a_grid)
  F_law_cell : Fun K "_law_cell" "_law_cell" s_law_cell A.a_law_cell A.d_law_cell
  b_law_cell : Binds K A.d_law_cell ["script", "k"] []
  mg_law_cell : mg "_law_cell" = some (.ref A.a_law_cell)
  F_law_pool : Fun K "_law_pool" "_law_pool" s_law_pool A.a_law_pool A.d_law_pool
  b_law_pool : Binds K A.d_law_pool ["script", "k", "count"] []
  mg_law_pool : mg "_law_pool" = some (.ref A.a_law_pool)
  F_law_word : Fun K "_law_word" "_law_word" s_law_word A.a_law_word A.d_law_word
  b_law_word : Binds K A.d_law_word ["pool", "at"] []
  mg_law_word : mg "_law_word" = some (.ref A.a_law_word)
  F_law_new : Fun K "_law_new" "_law_new" s_law_new A.a_law_new A.d_law_new
  b_law_new : Binds K A.d_law_new ["names", "word"] []
  mg_law_new : mg "_law_new" = some (.ref A.a_law_new)
  F_law_sequence : Fun K "_law_sequence" "_law_sequence" s_law_sequence A.a_law_sequence A.d_law_sequence
  b_law_sequence : Binds K A.d_law_sequence ["names", "draw"] []
  mg_law_sequence : mg "_law_sequence" = some (.ref A.a_law_sequence)
  F_law_names : Fun K "_law_names" "_law_names" s_law_names A.a_law_names A.d_law_names
  b_law_names : Binds K A.d_law_names ["pool"] []
  mg_law_names : mg "_law_names" = some (.ref A.a_law_names)
  F_law_rows : Fun K "_law_rows" "_law_rows" s_law_rows A.a_law_rows A.d_law_rows
  b_law_rows : Binds K A.d_law_rows ["columns", "order", "pool", "count"] []
  mg_law_rows : mg "_law_rows" = some (.ref A.a_law_rows)
  F_law_filled : Fun K "_law_filled" "_law_filled" s_law_filled A.a_law_filled A.d_law_filled
  b_law_filled : Binds K A.d_law_filled ["words", "wide"] []
  mg_law_filled : mg "_law_filled" = some (.ref A.a_law_filled)
  F_law_picture : Fun K "_law_picture" "_law_picture" s_law_picture A.a_law_picture A.d_law_picture
  b_law_picture : Binds K A.d_law_picture ["columns", "rows", "order"] []
  mg_law_picture : mg "_law_picture" = some (.ref A.a_law_picture)
  F_law_grid_is : Fun K "_law_grid_is" "_law_grid_is" s_law_grid_is A.a_law_grid_is A.d_law_grid_is
  b_law_grid_is : Binds K A.d_law_grid_is ["table", "columns", "rows", "order"] []
  mg_law_grid_is : mg "_law_grid_is" = some (.ref A.a_law_grid_is)
  F_law_refused : Fun K "_law_refused" "_law_refused" s_law_refused A.a_law_refused A.d_law_refused
  b_law_refused : Binds K A.d_law_refused ["table", "columns", "order"] []
  mg_law_refused : mg "_law_refused" = some (.ref A.a_law_refused)
  F_law : Fun K "law" "law" s_law A.a_law A.d_law
  b_law : Binds K A.d_law ["script"] []
  mg_law : mg "law" = some (.ref A.a_law)
/-- // by any divisor but 0 below 2 ^ 9000 -/
def CDivX (_ j : Int) : Prop := j ≠ 0 ∧ j.natAbs < 2 ^ 9000
theorem op_fdivX {X : Cx} : OpR X (binaryOp .FloorDiv) (rI CDivX fun i j => .int (i.fdiv j)) := opI fun i j _ _ _ _ _ hc q =>
  PyProof.Rows.floordiv_int hc.1 q (.inl (PyProof.noPylong_of_log2 (PySem.Flt.log2_lt_of (by decide) hc.2)))
theorem itN {c A B : Prop} [Decidable c] (hc : ¬ c) (h : B) : if decide c = true then A else B := by
  rw [decide_eq_false hc]; exact iteF h
theorem itY {c A B : Prop} [Decidable c] (hc : c) (h : A) : if decide c = true then A else B := by
  rw [decide_eq_true hc]; exact iteT h
theorem ifT {b : Bool} {A B : Prop} (hb : b = true) (h : A) : if b = true then A else B := by rw [if_pos hb]; exact h
theorem ifF {b : Bool} {A B : Prop} (hb : b = false) (h : B) : if b = true then A else B := by rw [if_neg (by rw [hb]; decide)]; exact h
theorem same_new {H : Hp} {l : Addr} {o : HO} (h : H l = none) : Same H (upd H l o) := fun b u e => by rw [upd_ne (ne_of_none e h)]; exact e
theorem _root_.L2.Same.tup {K : PySem.W.Frag} {H H' : Hp} {a : Addr} {xs : List V} (e : Same H H') (h : SqT K H a xs) : SqT K H' a xs := by
  rcases h with (r | ⟨o, r⟩) | z
  · exact .inl (.inl (e _ _ r))
  · exact .inl (.inr ⟨o, e _ _ r⟩)
  · exact .inr z
/-! ### a comprehension's list -/
/-- the heap H1 has grown, at D stands fm i -/
def PvS (H1 : Hp) (D : Addr) (fm : Nat → List V) (i : Nat) (H : Hp) : Prop := Same H1 H ∧ H D = some (.lst (fm i))
theorem pv0 {H1 : Hp} {D : Addr} {fm : Nat → List V} (hD : H1 D = none) (h : fm 0 = []) : PvS H1 D fm 0 (upd H1 D (.lst [])) := ⟨same_new hD, by rw [h]; exact upd_same⟩
theorem PvS.more {H1 H H' : Hp} {D : Addr} {fm : Nat → List V} {i : Nat} (p : PvS H1 D fm i H) (s : Same H H') : PvS H1 D fm i H' := ⟨p.1.trans s, s _ _ p.2⟩
theorem PvS.push {H1 H : Hp} {D : Addr} {fm : Nat → List V} {i : Nat} {y : V} (p : PvS H1 D fm i H) (hD : H1 D = none) (h : fm (i + 1) = fm i ++ [y]) (hl : (fm i).length ≤ 1000000) :
    ∃ acc, H D = some (.lst acc) ∧ acc.length < sizeLine ∧ PvS H1 D fm (i + 1) (upd H D (.lst (acc ++ [y]))) := by
  refine ⟨fm i, p.2, Nat.lt_of_le_of_lt hl (by decide), fun b o e => ?_, ?_⟩
  · rw [upd_ne (ne_of_none e hD)]; exact p.1 _ _ e
  · rw [h]; exact upd_same
theorem PvS.skip {H1 H : Hp} {D : Addr} {fm : Nat → List V} {i : Nat} (p : PvS H1 D fm i H) (h : fm (i + 1) = fm i) : PvS H1 D fm (i + 1) H := ⟨p.1, by rw [h]; exact p.2⟩
theorem small_int {n : Nat} (h : n ≤ 1000000) : n < sizeLine := Nat.lt_of_le_of_lt h (by decide)
theorem take_succ {α : Type} {xs : List α} {i : Nat} {x : α} (h : xs[i]? = some x) : xs.take (i + 1) = xs.take i ++ [x] := by
  rw [List.take_succ, h]; rfl
section
variable {P : Program} {w : World} {K : PySem.W.Frag} {mg : Str → Option Value} {base : Heap} {A : Ad}
theorem Txt.bi (T : Txt P K mg A) : Binds K A.d_Table_init ["self", "columns", "rows"] [] := by
  obtain ⟨ds, hv, hb⟩ := T.F_Table_init.binds1 (ps := ["self", "columns", "rows"]) 3 1 (by simp) rfl (fun T kV dc pm an cd ct us its hl hi => by
    match us, hl, its, hi with
    | [_, _, _], _, [_], _ => exact ⟨_, rfl, rfl⟩)
  cases hv
  exact hb
theorem ls1 : Str.length ("wrong in an order: place " : Str) = 25 := by decide
theorem ok_BadOrder (T : Txt P K mg A) : FnOk P w K mg base CX0 1 A.a_BadOrder_init A.d_BadOrder_init ["self", "index"] (spX1 A.C_BadOrder "index" smallI) := by
  refine sup_ok T.SF_BadOrder ss_BadOrder_init T.SC_BadOrder rfl rfl rfl (fun _ => rfl) (fun _ => rfl) (fun _ => rfl) (fun vs H Q E h => ?_) (fun cda cc A' outer s H vs Q E hr h => ?_)
  · obtain ⟨a, y, rfl, _⟩ := h
    rfl
  · obtain ⟨a, y, rfl, ⟨i, rfl, hi⟩, ha, k⟩ := h
    have l1 := PyProof.Rows.int_text_len_1921 (small_log hi)
    refine ⟨a, _, _, rfl, ha, (pe_joined (PJ.cons pe_str (PJ.cons (pe_fmt (pv 1)) PJ.nil))), (pss_one (ps_ost (pv 0) (pv 1))), ?_⟩
    refine ⟨_, rfl, by rw [Str.empty_append, ls1]; decide, _, rfl, .inr ⟨i, rfl, small_log hi, _, rfl, ?_, (by decide : 1 ≤ 1000), ha, _, rfl, _, rfl, a, _, rfl, T.SC_BadOrder.ox, T.xn_BadOrder_index, .inl ⟨ha, fun d hd hne => k d hd hne⟩⟩⟩
    rw [Str.empty_append, Str.length_append, ls1]
    exact Nat.le_trans (Nat.add_le_add_left l1 25) (by decide)
/-! ### names -/
theorem not_take {ns : List Str} {i : Nat} {z : Str} (nd : ns.Nodup) (hz : ns[i]? = some z) : z ∉ ns.take i := by
  intro hm
  obtain ⟨j, hj, e⟩ := List.mem_take_iff_getElem.mp hm
  obtain ⟨hi, e2⟩ := List.getElem?_eq_some_iff.mp hz
  rw [List.nodup_iff_pairwise_ne, List.pairwise_iff_getElem] at nd
  exact nd j i (by omega) hi (by omega) (e.trans e2.symm)
def spName : Sp := fun vs H Q _ => ∃ z, vs = [.str z] ∧ Good z ∧ ∀ H', Same H H' → Q (.bl true) H'
theorem ok_name (T : Txt P K mg A) : FnOk P w K mg base CX0 1 A.a_is_name A.d_is_name ["text"] spName := by
  refine T.F_is_name.ok sc_is_name (fun vs H Q E h => ?_) (fun cdv A' outer s H vs Q E hr h => ?_)
  · obtain ⟨z, rfl, _⟩ := h
    rfl
  · obtain ⟨z, rfl, g, k⟩ := h
    refine ⟨_, (pss_one (ps_ret (pe_and (pe_chain op_le op_le pe_int (pe_callB call_len_str (by rfl) T.n_len (by decide +kernel) (pa_cons (pv 0) pa_nil)) (pe_glob (v := .int 8) rfl T.mg_LONGEST_NAME.choose_spec ⟨_, rfl⟩)) (pe_one (pe_callB (cr_all rfl) (by rfl) T.n_all (by decide +kernel) (pa_cons (pe_lc (own := [("sign", 1)]) (g := gName 1) (tt := tYes) rfl sc_is_name.nd (pi_str (pv 0)) (blkOk_by (N := ["text", "sign"]) (sc := defScope s_is_name) (by decide +kernel)) (fun _ _ _ _ _ => (pg_name (i := 1) sc_is_name.nd rfl (Or.inl rfl))) (fun _ _ _ _ _ => pts_nil) (fun _ _ _ _ _ => (pe_chain op_le_str op_le_str pe_str (pv 1) pe_str))) pa_nil)))))), ?_⟩
    have hz : z.length ≤ sizeLine := Nat.le_trans g.le (by decide)
    refine ⟨_, rfl, z, rfl, hz, _, _, rfl, rfl, _, rfl, itY (by have := g.pos; omega) ⟨_, _, rfl, rfl, _, rfl, itY (by have := g.le; omega) ?_⟩⟩
    refine ⟨_, rfl, z, rfl, fun D hD => lc_it walk_str (PvS H D fun i => List.replicate i (V.bl true)) (pv0 hD rfl) (fun _ _ _ _ => trivial) ?_ ?_⟩
    · rintro i x H3 H4 hi p ⟨rfl, c, hc, rfl⟩
      have hl : 97 ≤ c ∧ c ≤ 122 := g.let_ c (by rw [Array.mem_toList_iff]; exact Array.mem_of_getElem? hc)
      refine ⟨rfl, ?_⟩
      refine ⟨_, rfl, _, _, rfl, rfl, _, rfl, ifT (by
        show (!decide ([c] < [97])) = true
        have : ¬ c < 97 := by omega
        simp [List.cons_lt_cons_iff]; omega) ⟨_, _, rfl, rfl, ?_⟩⟩
      have e : (!decide ([122] < [c])) = true := by
        simp [List.cons_lt_cons_iff]; omega
      refine p.push hD ?_ (by rw [List.length_replicate]; have := g.le; have h2 : z.cps.size = z.length := rfl; omega)
      show List.replicate (i + 1) (V.bl true) = List.replicate i (V.bl true) ++ [V.bl (!decide ([122] < [c]))]
      rw [e, List.replicate_succ']
    · rintro H3 ⟨sm, h3⟩
      refine ⟨D, List.replicate z.cps.size true, rfl, SqL.of (by rw [List.map_replicate]; exact h3), ?_⟩
      rw [List.all_replicate]
      have e : (if z.cps.size = 0 then true else id true) = true := by split <;> rfl
      first | exact k H3 sm | (rw [e]; exact k H3 sm) | (simp; exact k H3 sm)
def spFirstBad (K : PySem.W.Frag) : Sp := fun vs H Q _ => ∃ l ns, vs = [.ref l] ∧ SqL K H l (sv ns) ∧ (∀ z ∈ ns, Good z) ∧ ns.Nodup ∧ ns.length ≤ 1000 ∧ ∀ H', Same H H' → Q .non H'
theorem ok_firstBad (T : Txt P K mg A) : FnOk P w K mg base CX0 2 A.a_first_bad_name A.d_first_bad_name ["names"] (spFirstBad K) := by
  have G_is_name := ok_name (P := P) (w := w) (base := base) T
  refine T.F_first_bad_name.ok sc_first_bad_name (fun vs H Q E h => ?_) (fun cdv A' outer s H vs Q E hr h => ?_)
  · obtain ⟨l, ns, rfl, _⟩ := h
    rfl
  · obtain ⟨l, ns, rfl, hS, g, nd, hl, k⟩ := h
    refine ⟨_, (pss_cons (ps_for PassesOwn.never rfl (pi_enum (by rfl) T.n_enumerate (pa_cons (pv 0) pa_nil)) (pg_tup (by rfl) (pgs_cons (pg_name (i := 1) sc_first_bad_name.nd rfl (Or.inl rfl)) (pgs_cons (pg_name (i := 2) sc_first_bad_name.nd rfl (Or.inl rfl)) pgs_nil)))
        (pss_one (ps_if (PW.pt (pw_or (pt_not (pt_val (pe_call G_is_name (hr.mono (by decide)) rfl T.mg_is_name T.F_is_name.kp T.b_is_name .nil pass0 (pa_cons (pv 2) pa_nil)))) (pw_or1 (pt_cmpR op_in_seq (pv 2) (pe_slice sl_list (pv 0) po_none (po_some (pv 1))) (by with_unfolding_all rfl))))) (pss_one (ps_ret (pv 1))) pss_nil)))
      (pss_one (ps_ret pe_non))), ?_⟩
    refine ⟨_, rfl, l, _, rfl, hS, for_it walk_enum (fun i σ H2 => Same H H2 ∧ ∃ u1 u2 : Option V, σ = [some (.ref l), u1, u2]) ⟨Same.refl _, none, none, rfl⟩ (fun i σ H2 _ p => p.1.seq hS) ?_ ?_⟩
    · rintro i x σ H2 H3 hi ⟨sm, u1, u2, rfl⟩ ⟨t, _, _, rfl, ht, rfl, ⟨⟩, hx⟩
      obtain ⟨z, hz, rfl⟩ := sv_get hx
      refine ⟨t, _, rfl, SqT.of upd_same, rfl, _, _, rfl, _, _, rfl, rfl, ?_⟩
      refine ⟨_, rfl, z, rfl, g z (List.mem_of_getElem? hz), fun H4 sm4 => ⟨true, rfl, ?_⟩⟩
      have s4 : Same H H4 := sm.trans ((same_new ht).trans sm4)
      refine iteF ⟨_, rfl, _, rfl, _, rfl, _, rfl, l, _, rfl, s4.seq hS, fun p hp => ⟨p, _, rfl, .inl (SqL.of upd_same), rfl, ?_, _, rfl, ifF ?_ ⟨s4.trans (same_new hp), _, _, rfl⟩⟩⟩
      · rw [cut_take (by omega), sv_take]; exact flat_sv _
      · show inV (V.str z) (cutV (sv ns) none (some (i : Int))) = false
        rw [cut_take (by omega), sv_take, inV_str]
        exact decide_eq_false (not_take nd hz)
    · rintro σ H2 ⟨sm, u1, u2, rfl⟩
      exact k H2 sm
def spStray (sq1 sq2 : Hp → Addr → List V → Prop) : Sp := fun vs H Q _ => ∃ c l cs ns, vs = [.ref c, .ref l] ∧ sq1 H c (sv cs) ∧ sq2 H l (sv ns) ∧ ns.length ≤ 1000 ∧ ∀ H', Same H H' → Q (optV (stray cs ns)) H'
theorem ok_stray (T : Txt P K mg A) : FnOk P w K mg base CX0 1 A.a_first_stray A.d_first_stray ["columns", "names"] (spStray (SqL K) (SqL K)) := by
  refine T.F_first_stray.ok sc_first_stray (fun vs H Q E h => ?_) (fun cdv A' outer s H vs Q E hr h => ?_)
  · obtain ⟨c, l, cs, ns, rfl, _⟩ := h
    rfl
  · obtain ⟨c, l, cs, ns, rfl, h1, h2, hl, k⟩ := h
    refine ⟨_, (pss_cons (ps_for PassesOwn.never rfl (pi_enum (by rfl) T.n_enumerate (pa_cons (pv 1) pa_nil)) (pg_tup (by rfl) (pgs_cons (pg_name (i := 2) sc_first_stray.nd rfl (Or.inl rfl)) (pgs_cons (pg_name (i := 3) sc_first_stray.nd rfl (Or.inl rfl)) pgs_nil)))
        (pss_one (ps_if (PW.pt (pw_or (pt_cmpR op_notIn_seq (pv 3) (pv 0) (by with_unfolding_all rfl)) (pw_or1 (pt_cmpR op_in_seq (pv 3) (pe_slice sl_list (pv 1) po_none (po_some (pv 2))) (by with_unfolding_all rfl))))) (pss_one (ps_ret (pv 2))) pss_nil)))
      (pss_one (ps_ret pe_non))), ?_⟩
    refine ⟨_, rfl, l, _, rfl, h2, for_it walk_enum (fun i σ H2 => Same H H2 ∧ (∀ j, j < i → badAt cs ns j = false) ∧ ∃ u1 u2 : Option V, σ = [some (.ref c), some (.ref l), u1, u2]) ⟨Same.refl _, fun j hj => absurd hj (Nat.not_lt_zero _), none, none, rfl⟩ (fun i σ H2 _ p => p.1.seq h2) ?_ ?_⟩
    · rintro i x σ H2 H3 hi ⟨sm, hb, u1, u2, rfl⟩ ⟨t, _, _, rfl, ht, rfl, ⟨⟩, hx⟩
      obtain ⟨z, hz, rfl⟩ := sv_get hx
      have hil : i < ns.length := by rw [len_sv] at hi; exact hi
      have bad : badAt cs ns i = (!decide (z ∈ cs) || decide (z ∈ ns.take i)) := by unfold badAt; rw [hz]
      refine ⟨t, _, rfl, SqT.of upd_same, rfl, _, _, rfl, _, _, rfl, rfl, ?_⟩
      have s3 : Same H (upd H2 t (.tup [.int (i : Nat), .str z])) := sm.trans (same_new ht)
      refine ⟨_, rfl, _, rfl, c, _, rfl, .inl (s3.seq h1), rfl, flat_sv _, _, rfl, ?_⟩
      rw [if_pos (rfl : true = true), inV_str]
      by_cases hc : z ∈ cs
      · refine ifF (by rw [decide_eq_true hc]; rfl) ?_
        refine ⟨_, rfl, _, rfl, _, rfl, _, rfl, l, _, rfl, s3.seq h2, fun p hp => ⟨p, _, rfl, .inl (SqL.of upd_same), rfl, by rw [cut_take (by omega), sv_take]; exact flat_sv _, _, rfl, ?_⟩⟩
        rw [if_neg Bool.false_ne_true, cut_take (by omega), sv_take, inV_str]
        have s4 := s3.trans (same_new (o := .lst (cutV (sv ns) none (some ((i : Nat) : Int)))) hp)
        rw [cut_take (by omega), sv_take] at s4
        by_cases hp2 : z ∈ ns.take i
        · refine ifT (decide_eq_true hp2) ⟨_, rfl, ?_⟩
          have e := stray_some (cs := cs) hil (by rw [bad, decide_eq_true hp2, Bool.or_true]) hb
          rw [e] at k
          exact k _ s4
        · refine ifF (decide_eq_false hp2) ⟨s4, fun j hj => ?_, _, _, rfl⟩
          rcases Nat.lt_succ_iff_lt_or_eq.mp hj with q | q
          · exact hb j q
          · rw [q, bad, decide_eq_true hc, decide_eq_false hp2]; rfl
      · refine ifT (by rw [decide_eq_false hc]; rfl) (ifT rfl ⟨_, rfl, ?_⟩)
        have e := stray_some (cs := cs) hil (by rw [bad, decide_eq_false hc]; rfl) hb
        rw [e] at k
        exact k _ s3
    · rintro σ H2 ⟨sm, hb, u1, u2, rfl⟩
      have e := stray_none (cs := cs) (ns := ns) fun j hj => hb j (by rw [len_sv]; exact hj)
      rw [e] at k
      exact k H2 sm
theorem ok_strayTL (T : Txt P K mg A) : FnOk P w K mg base CX0 1 A.a_first_stray A.d_first_stray ["columns", "names"] (spStray (SqT K) (SqL K)) := by
  refine T.F_first_stray.ok sc_first_stray (fun vs H Q E h => ?_) (fun cdv A' outer s H vs Q E hr h => ?_)
  · obtain ⟨c, l, cs, ns, rfl, _⟩ := h
    rfl
  · obtain ⟨c, l, cs, ns, rfl, h1, h2, hl, k⟩ := h
    refine ⟨_, (pss_cons (ps_for PassesOwn.never rfl (pi_enum (by rfl) T.n_enumerate (pa_cons (pv 1) pa_nil)) (pg_tup (by rfl) (pgs_cons (pg_name (i := 2) sc_first_stray.nd rfl (Or.inl rfl)) (pgs_cons (pg_name (i := 3) sc_first_stray.nd rfl (Or.inl rfl)) pgs_nil)))
        (pss_one (ps_if (PW.pt (pw_or (pt_cmpR op_notIn_seq (pv 3) (pv 0) (by with_unfolding_all rfl)) (pw_or1 (pt_cmpR op_in_seq (pv 3) (pe_slice sl_list (pv 1) po_none (po_some (pv 2))) (by with_unfolding_all rfl))))) (pss_one (ps_ret (pv 2))) pss_nil)))
      (pss_one (ps_ret pe_non))), ?_⟩
    refine ⟨_, rfl, l, _, rfl, h2, for_it walk_enum (fun i σ H2 => Same H H2 ∧ (∀ j, j < i → badAt cs ns j = false) ∧ ∃ u1 u2 : Option V, σ = [some (.ref c), some (.ref l), u1, u2]) ⟨Same.refl _, fun j hj => absurd hj (Nat.not_lt_zero _), none, none, rfl⟩ (fun i σ H2 _ p => p.1.seq h2) ?_ ?_⟩
    · rintro i x σ H2 H3 hi ⟨sm, hb, u1, u2, rfl⟩ ⟨t, _, _, rfl, ht, rfl, ⟨⟩, hx⟩
      obtain ⟨z, hz, rfl⟩ := sv_get hx
      have hil : i < ns.length := by rw [len_sv] at hi; exact hi
      have bad : badAt cs ns i = (!decide (z ∈ cs) || decide (z ∈ ns.take i)) := by unfold badAt; rw [hz]
      refine ⟨t, _, rfl, SqT.of upd_same, rfl, _, _, rfl, _, _, rfl, rfl, ?_⟩
      have s3 : Same H (upd H2 t (.tup [.int (i : Nat), .str z])) := sm.trans (same_new ht)
      refine ⟨_, rfl, _, rfl, c, _, rfl, .inr (s3.tup h1), rfl, flat_sv _, _, rfl, ?_⟩
      rw [if_pos (rfl : true = true), inV_str]
      by_cases hc : z ∈ cs
      · refine ifF (by rw [decide_eq_true hc]; rfl) ?_
        refine ⟨_, rfl, _, rfl, _, rfl, _, rfl, l, _, rfl, s3.seq h2, fun p hp => ⟨p, _, rfl, .inl (SqL.of upd_same), rfl, by rw [cut_take (by omega), sv_take]; exact flat_sv _, _, rfl, ?_⟩⟩
        rw [if_neg Bool.false_ne_true, cut_take (by omega), sv_take, inV_str]
        have s4 := s3.trans (same_new (o := .lst (cutV (sv ns) none (some ((i : Nat) : Int)))) hp)
        rw [cut_take (by omega), sv_take] at s4
        by_cases hp2 : z ∈ ns.take i
        · refine ifT (decide_eq_true hp2) ⟨_, rfl, ?_⟩
          have e := stray_some (cs := cs) hil (by rw [bad, decide_eq_true hp2, Bool.or_true]) hb
          rw [e] at k
          exact k _ s4
        · refine ifF (decide_eq_false hp2) ⟨s4, fun j hj => ?_, _, _, rfl⟩
          rcases Nat.lt_succ_iff_lt_or_eq.mp hj with q | q
          · exact hb j q
          · rw [q, bad, decide_eq_true hc, decide_eq_false hp2]; rfl
      · refine ifT (by rw [decide_eq_false hc]; rfl) (ifT rfl ⟨_, rfl, ?_⟩)
        have e := stray_some (cs := cs) hil (by rw [bad, decide_eq_false hc]; rfl) hb
        rw [e] at k
        exact k _ s3
    · rintro σ H2 ⟨sm, hb, u1, u2, rfl⟩
      have e := stray_none (cs := cs) (ns := ns) fun j hj => hb j (by rw [len_sv]; exact hj)
      rw [e] at k
      exact k H2 sm
theorem ok_strayTT (T : Txt P K mg A) : FnOk P w K mg base CX0 1 A.a_first_stray A.d_first_stray ["columns", "names"] (spStray (SqT K) (SqT K)) := by
  refine T.F_first_stray.ok sc_first_stray (fun vs H Q E h => ?_) (fun cdv A' outer s H vs Q E hr h => ?_)
  · obtain ⟨c, l, cs, ns, rfl, _⟩ := h
    rfl
  · obtain ⟨c, l, cs, ns, rfl, h1, h2, hl, k⟩ := h
    refine ⟨_, (pss_cons (ps_for PassesOwn.never rfl (pi_enumT (by rfl) T.n_enumerate (pa_cons (pv 1) pa_nil)) (pg_tup (by rfl) (pgs_cons (pg_name (i := 2) sc_first_stray.nd rfl (Or.inl rfl)) (pgs_cons (pg_name (i := 3) sc_first_stray.nd rfl (Or.inl rfl)) pgs_nil)))
        (pss_one (ps_if (PW.pt (pw_or (pt_cmpR op_notIn_seq (pv 3) (pv 0) (by with_unfolding_all rfl)) (pw_or1 (pt_cmpR op_in_seq (pv 3) (pe_slice sl_tup (pv 1) po_none (po_some (pv 2))) (by with_unfolding_all rfl))))) (pss_one (ps_ret (pv 2))) pss_nil)))
      (pss_one (ps_ret pe_non))), ?_⟩
    refine ⟨_, rfl, l, _, rfl, h2, for_it walk_enumT (fun i σ H2 => Same H H2 ∧ (∀ j, j < i → badAt cs ns j = false) ∧ ∃ u1 u2 : Option V, σ = [some (.ref c), some (.ref l), u1, u2]) ⟨Same.refl _, fun j hj => absurd hj (Nat.not_lt_zero _), none, none, rfl⟩ (fun i σ H2 _ p => p.1.tup h2) ?_ ?_⟩
    · rintro i x σ H2 H3 hi ⟨sm, hb, u1, u2, rfl⟩ ⟨t, _, _, rfl, ht, rfl, ⟨⟩, hx⟩
      obtain ⟨z, hz, rfl⟩ := sv_get hx
      have hil : i < ns.length := by rw [len_sv] at hi; exact hi
      have bad : badAt cs ns i = (!decide (z ∈ cs) || decide (z ∈ ns.take i)) := by unfold badAt; rw [hz]
      refine ⟨t, _, rfl, SqT.of upd_same, rfl, _, _, rfl, _, _, rfl, rfl, ?_⟩
      have s3 : Same H (upd H2 t (.tup [.int (i : Nat), .str z])) := sm.trans (same_new ht)
      refine ⟨_, rfl, _, rfl, c, _, rfl, .inr (s3.tup h1), rfl, flat_sv _, _, rfl, ?_⟩
      rw [if_pos (rfl : true = true), inV_str]
      by_cases hc : z ∈ cs
      · refine ifF (by rw [decide_eq_true hc]; rfl) ?_
        refine ⟨_, rfl, _, rfl, _, rfl, _, rfl, l, _, rfl, s3.tup h2, fun z => (by have z2 := z.2; rw [HT.sIx_nat, len_sv] at z2; omega), fun p hp => ⟨p, _, rfl, .inr (SqT.of upd_same), rfl, by rw [cut_take (by omega), sv_take]; exact flat_sv _, _, rfl, ?_⟩⟩
        rw [if_neg Bool.false_ne_true, cut_take (by omega), sv_take, inV_str]
        have s4 := s3.trans (same_new (o := .tup (cutV (sv ns) none (some ((i : Nat) : Int)))) hp)
        rw [cut_take (by omega), sv_take] at s4
        by_cases hp2 : z ∈ ns.take i
        · refine ifT (decide_eq_true hp2) ⟨_, rfl, ?_⟩
          have e := stray_some (cs := cs) hil (by rw [bad, decide_eq_true hp2, Bool.or_true]) hb
          rw [e] at k
          exact k _ s4
        · refine ifF (decide_eq_false hp2) ⟨s4, fun j hj => ?_, _, _, rfl⟩
          rcases Nat.lt_succ_iff_lt_or_eq.mp hj with q | q
          · exact hb j q
          · rw [q, bad, decide_eq_true hc, decide_eq_false hp2]; rfl
      · refine ifT (by rw [decide_eq_false hc]; rfl) (ifT rfl ⟨_, rfl, ?_⟩)
        have e := stray_some (cs := cs) hil (by rw [bad, decide_eq_false hc]; rfl) hb
        rw [e] at k
        exact k _ s3
    · rintro σ H2 ⟨sm, hb, u1, u2, rfl⟩
      have e := stray_none (cs := cs) (ns := ns) fun j hj => hb j (by rw [len_sv]; exact hj)
      rw [e] at k
      exact k H2 sm
/-! ### an order of the columns -/
def spFault (K : PySem.W.Frag) (sq2 : Hp → Addr → List V → Prop) : Sp := fun vs H Q _ => ∃ c l cs ns, vs = [.ref c, .ref l] ∧ SqT K H c (sv cs) ∧ sq2 H l (sv ns) ∧ ns.length ≤ 1000 ∧ ∀ H', Same H H' → Q (optV (fault cs ns)) H'
theorem ok_fault (T : Txt P K mg A) : FnOk P w K mg base CX0 2 A.a_order_fault A.d_order_fault ["columns", "order"] (spFault K (SqL K)) := by
  have G_first_strayTL := ok_strayTL (P := P) (w := w) (base := base) T
  refine T.F_order_fault.ok sc_order_fault (fun vs H Q E h => ?_) (fun cdv A' outer s H vs Q E hr h => ?_)
  · obtain ⟨c, l, cs, ns, rfl, _⟩ := h
    rfl
  · obtain ⟨c, l, cs, ns, rfl, h1, h2, hl, k⟩ := h
    refine ⟨_, (pss_cons (ps_set (i := 2) sc_order_fault.nd rfl (Or.inl rfl) (pe_call G_first_strayTL (hr.mono (by decide)) rfl T.mg_first_stray T.F_first_stray.kp T.b_first_stray .nil pass0 (pa_cons (pv 0) (pa_cons (pv 1) pa_nil))))
      (pss_cons (ps_if (PW.pt (pw_and (pt_cmpR op_isN (pv 2) pe_non (nomark _)) (pw_and1 (pt_cmpR op_lt (pe_callB call_len_seq (by rfl) T.n_len (by decide +kernel) (pa_cons (pv 1) pa_nil)) (pe_callB call_len_seq (by rfl) T.n_len (by decide +kernel) (pa_cons (pv 0) pa_nil)) (nomark _))))) (pss_one (ps_ret (pe_callB call_len_seq (by rfl) T.n_len (by decide +kernel) (pa_cons (pv 1) pa_nil)))) pss_nil)
      (pss_one (ps_ret (pv 2))))), ?_⟩
    refine ⟨_, rfl, _, rfl, c, l, cs, ns, rfl, h1, h2, hl, fun H2 sm => ?_⟩
    refine ⟨_, rfl, rfl, _, rfl, ?_⟩
    unfold fault at k
    cases hs : stray cs ns with
    | some i =>
      rw [hs] at k
      refine itN (fun z => nomatch z) (iteF ⟨_, rfl, ?_⟩)
      exact k _ sm
    | none =>
      rw [hs] at k
      refine itY rfl ⟨_, rfl, l, _, rfl, .inl (sm.seq h2), _, rfl, c, _, rfl, .inr (sm.tup h1), _, _, rfl, rfl, _, rfl, ?_⟩
      by_cases hlt : ns.length < cs.length
      · refine itY (by rw [len_sv, len_sv]; omega) ⟨_, rfl, l, _, rfl, .inl (sm.seq h2), ?_⟩
        have k : ∀ H', Same H H' → Q (optV (if ns.length < cs.length then some ns.length else none)) H' := k
        rw [if_pos hlt] at k
        rw [len_sv]
        exact k _ sm
      · refine itN (by rw [len_sv, len_sv]; omega) ⟨_, rfl, ?_⟩
        have k : ∀ H', Same H H' → Q (optV (if ns.length < cs.length then some ns.length else none)) H' := k
        rw [if_neg hlt] at k
        exact k _ sm
theorem ok_faultT (T : Txt P K mg A) : FnOk P w K mg base CX0 2 A.a_order_fault A.d_order_fault ["columns", "order"] (spFault K (SqT K)) := by
  have G_first_strayTT := ok_strayTT (P := P) (w := w) (base := base) T
  refine T.F_order_fault.ok sc_order_fault (fun vs H Q E h => ?_) (fun cdv A' outer s H vs Q E hr h => ?_)
  · obtain ⟨c, l, cs, ns, rfl, _⟩ := h
    rfl
  · obtain ⟨c, l, cs, ns, rfl, h1, h2, hl, k⟩ := h
    refine ⟨_, (pss_cons (ps_set (i := 2) sc_order_fault.nd rfl (Or.inl rfl) (pe_call G_first_strayTT (hr.mono (by decide)) rfl T.mg_first_stray T.F_first_stray.kp T.b_first_stray .nil pass0 (pa_cons (pv 0) (pa_cons (pv 1) pa_nil))))
      (pss_cons (ps_if (PW.pt (pw_and (pt_cmpR op_isN (pv 2) pe_non (nomark _)) (pw_and1 (pt_cmpR op_lt (pe_callB call_len_seq (by rfl) T.n_len (by decide +kernel) (pa_cons (pv 1) pa_nil)) (pe_callB call_len_seq (by rfl) T.n_len (by decide +kernel) (pa_cons (pv 0) pa_nil)) (nomark _))))) (pss_one (ps_ret (pe_callB call_len_seq (by rfl) T.n_len (by decide +kernel) (pa_cons (pv 1) pa_nil)))) pss_nil)
      (pss_one (ps_ret (pv 2))))), ?_⟩
    refine ⟨_, rfl, _, rfl, c, l, cs, ns, rfl, h1, h2, hl, fun H2 sm => ?_⟩
    refine ⟨_, rfl, rfl, _, rfl, ?_⟩
    unfold fault at k
    cases hs : stray cs ns with
    | some i =>
      rw [hs] at k
      refine itN (fun z => nomatch z) (iteF ⟨_, rfl, ?_⟩)
      exact k _ sm
    | none =>
      rw [hs] at k
      refine itY rfl ⟨_, rfl, l, _, rfl, .inr (sm.tup h2), _, rfl, c, _, rfl, .inr (sm.tup h1), _, _, rfl, rfl, _, rfl, ?_⟩
      by_cases hlt : ns.length < cs.length
      · refine itY (by rw [len_sv, len_sv]; omega) ⟨_, rfl, l, _, rfl, .inr (sm.tup h2), ?_⟩
        have k : ∀ H', Same H H' → Q (optV (if ns.length < cs.length then some ns.length else none)) H' := k
        rw [if_pos hlt] at k
        rw [len_sv]
        exact k _ sm
      · refine itN (by rw [len_sv, len_sv]; omega) ⟨_, rfl, ?_⟩
        have k : ∀ H', Same H H' → Q (optV (if ns.length < cs.length then some ns.length else none)) H' := k
        rw [if_neg hlt] at k
        exact k _ sm
def spCount (K : PySem.W.Frag) : Sp := fun vs H Q _ => ∃ l fl, vs = [.ref l] ∧ SqL K H l (fl.map V.bl) ∧ fl.length ≤ 1000 ∧ ∀ H', Same H H' → Q (.int (runs fl : Nat)) H'
theorem ok_count (T : Txt P K mg A) : FnOk P w K mg base CX0 1 A.a_count_runs A.d_count_runs ["flags"] (spCount K) := by
  refine T.F_count_runs.ok sc_count_runs (fun vs H Q E h => ?_) (fun cdv A' outer s H vs Q E hr h => ?_)
  · obtain ⟨l, fl, rfl, _⟩ := h
    rfl
  · obtain ⟨l, fl, rfl, h1, hl, k⟩ := h
    refine ⟨_, (pss_one (ps_ret (pe_callB call_len_seq (by rfl) T.n_len (by decide +kernel) (pa_cons (pe_lc (own := [("at", 1), ("flag", 2)]) (g := gTup K 2 (gCons (gName 1) (gCons (gName 2) gNil))) (tt := _) rfl sc_count_runs.nd (pi_enum (by rfl) T.n_enumerate (pa_cons (pv 0) pa_nil)) (blkOk_by (N := ["flags", "at", "flag"]) (sc := defScope s_count_runs) (by decide +kernel)) (fun _ _ _ _ _ => (pg_tup (by rfl) (pgs_cons (pg_name (i := 1) sc_count_runs.nd rfl (Or.inl rfl)) (pgs_cons (pg_name (i := 2) sc_count_runs.nd rfl (Or.inl rfl)) pgs_nil)))) (fun _ _ _ _ _ => (pts_one (PW.pt (pw_and (pt_val (pv 2)) (pw_and1 (pt_not (PW.pt (pw_and (pt_cmpR op_gt (pv 1) pe_int (nomark _)) (pw_and1 (pt_val (pe_ix (show IxR _ (rIxL K) from ix_list) (pv 0) (pe_op op_sub (pv 1) pe_int) (fun _ _ => rfl)))))))))))) (fun _ _ _ _ _ => (pv 1))) pa_nil)))), ?_⟩
    have stepT : ∀ i, runAt fl i = true → (((List.range (i + 1)).filter (runAt fl)).map fun n => V.int (n : Nat)) = (((List.range i).filter (runAt fl)).map fun n => V.int (n : Nat)) ++ [V.int (i : Nat)] := fun i h => by
      rw [List.range_succ, List.filter_append, List.map_append, List.filter_cons_of_pos h]; rfl
    have stepF : ∀ i, runAt fl i = false → (((List.range (i + 1)).filter (runAt fl)).map fun n => V.int (n : Nat)) = (((List.range i).filter (runAt fl)).map fun n => V.int (n : Nat)) := fun i h => by
      rw [List.range_succ, List.filter_append, List.map_append, List.filter_cons_of_neg (by rw [h]; decide)]; simp
    have lenF : ∀ i, i ≤ fl.length → (((List.range i).filter (runAt fl)).map fun n => V.int (n : Nat)).length ≤ 1000000 := fun i h => by
      have := List.length_filter_le (runAt fl) (List.range i)
      rw [List.length_range] at this
      rw [List.length_map]; omega
    refine ⟨_, rfl, l, _, rfl, h1, fun D hD => lc_it walk_enum (PvS H D fun i => ((List.range i).filter (runAt fl)).map fun n => V.int (n : Nat)) (pv0 hD rfl) (fun i H2 _ p => p.1.seq h1) ?_ ?_⟩
    · rintro i x H3 H4 hi p ⟨t, _, _, rfl, ht, rfl, ⟨⟩, hx⟩
      have hil : i < fl.length := by rw [List.length_map] at hi; exact hi
      have hb : fl[i]? = some fl[i] := List.getElem?_eq_getElem hil
      have hd : fl.getD i false = fl[i] := by rw [List.getD_eq_getElem?_getD, hb]; rfl
      have hx : (fl.map V.bl)[i]? = some _ := hx
      rw [List.getElem?_map, hb] at hx
      cases hx
      generalize fl[i] = b at hb hd
      have p' := p.more (same_new (o := .tup [.int (i : Nat), .bl b]) ht)
      refine ⟨t, _, rfl, SqT.of upd_same, rfl, _, _, rfl, _, _, rfl, rfl, rfl, ?_⟩
      cases b with
      | false =>
        refine ⟨_, rfl, _, rfl, iteF (iteF (p'.skip (stepF i ?_)))⟩
        unfold runAt; rw [hd]; rfl
      | true =>
        refine ⟨_, rfl, _, rfl, iteT ⟨_, rfl, _, _, rfl, rfl, _, rfl, ?_⟩⟩
        by_cases h0 : 0 < i
        · refine itY (by omega) ?_
          have hp1 : i - 1 < fl.length := by omega
          have e1 : fl.getD (i - 1) false = fl[i - 1] := by rw [List.getD_eq_getElem?_getD, List.getElem?_eq_getElem hp1]; rfl
          have at1 : atI (fl.map V.bl) ((i : Int) - 1) = some (V.bl fl[i - 1]) := by
            have := atI_nat (xs := fl.map V.bl) (j := i - 1) (v := V.bl fl[i - 1]) (by rw [List.getElem?_map, List.getElem?_eq_getElem hp1]; rfl)
            rw [show (((i - 1 : Nat) : Int)) = (i : Int) - 1 by omega] at this
            exact this
          refine ⟨_, rfl, _, rfl, _, _, rfl, rfl, l, _, _, _, rfl, rfl, p'.1.seq h1, at1, _, rfl, ?_⟩
          generalize fl[i - 1] = b' at e1
          cases b' with
          | false =>
            refine iteT ⟨_, rfl, p'.push hD (stepT i ?_) (lenF i (by omega))⟩
            unfold runAt; rw [hd, e1]; simp
          | true =>
            refine iteF (p'.skip (stepF i ?_))
            unfold runAt; rw [hd, e1, decide_eq_true h0]; rfl
        · refine itN (by omega) (iteT ⟨_, rfl, p'.push hD (stepT i ?_) (lenF i (by omega))⟩)
          unfold runAt; rw [hd, decide_eq_false h0]; rfl
    · rintro H3 ⟨sm, h3⟩
      refine ⟨D, _, rfl, .inl (SqL.of h3), ?_⟩
      rw [List.length_map, List.length_map]
      exact k H3 sm
def spRuns (K : PySem.W.Frag) (sq2 : Hp → Addr → List V → Prop) : Sp := fun vs H Q _ => ∃ r l rs ns, vs = [.ref r, .ref l] ∧ SqT K H r (sv rs) ∧ sq2 H l (sv ns) ∧ ns.length ≤ 1000 ∧ ∀ H', Same H H' → Q (.int (runs (flags ns rs) : Nat)) H'
theorem ok_runs (T : Txt P K mg A) : FnOk P w K mg base CX0 2 A.a_runs_of A.d_runs_of ["row", "order"] (spRuns K (SqL K)) := by
  have G_count_runs := ok_count (P := P) (w := w) (base := base) T
  refine T.F_runs_of.ok sc_runs_of (fun vs H Q E h => ?_) (fun cdv A' outer s H vs Q E hr h => ?_)
  · obtain ⟨r, l, rs, ns, rfl, _⟩ := h
    rfl
  · obtain ⟨r, l, rs, ns, rfl, h1, h2, hl, k⟩ := h
    refine ⟨_, (pss_one (ps_ret (pe_call G_count_runs (hr.mono (by decide)) rfl T.mg_count_runs T.F_count_runs.kp T.b_count_runs .nil pass0 (pa_cons (pe_lc (own := [("name", 2)]) (g := gName 2) (tt := tYes) rfl sc_runs_of.nd (pi_list (pv 1)) (blkOk_by (N := ["row", "order", "name"]) (sc := defScope s_runs_of) (by decide +kernel)) (fun _ _ _ _ _ => (pg_name (i := 2) sc_runs_of.nd rfl (Or.inl rfl))) (fun _ _ _ _ _ => pts_nil) (fun _ _ _ _ _ => (pe_cmpR (show OpR _ _ (rIn K false) from op_in_seq) (pv 2) (pv 0) (by with_unfolding_all rfl)))) pa_nil)))), ?_⟩
    refine ⟨_, rfl, l, rfl, ⟨_, h2⟩, fun D hD => lc_it walk_list (PvS H D fun i => ((flags ns rs).take i).map V.bl) (pv0 hD rfl) (fun i H2 _ p => p.1.seq h2) ?_ ?_⟩
    · rintro i x H3 H4 hi p ⟨rfl, hx⟩
      obtain ⟨z, hz, rfl⟩ := sv_get hx
      refine ⟨rfl, _, rfl, _, rfl, r, _, rfl, .inr (p.1.tup h1), rfl, flat_sv _, p.push hD ?_ ?_⟩
      · rw [if_neg Bool.false_ne_true, inV_str]
        have hf : (flags ns rs)[i]? = some (decide (z ∈ rs)) := by unfold flags; rw [List.getElem?_map, hz]; rfl
        show ((flags ns rs).take (i + 1)).map V.bl = _
        rw [take_succ hf, List.map_append]; rfl
      · show (((flags ns rs).take i).map V.bl).length ≤ 1000000
        rw [List.length_map, List.length_take]
        rw [len_sv] at hi
        omega
    · rintro H3 ⟨sm, h3⟩
      have hfl : (flags ns rs).length = (sv ns).length := by unfold flags; rw [List.length_map, len_sv]
      have h3 : H3 D = some (.lst (((flags ns rs).take (sv ns).length).map V.bl)) := h3
      rw [← hfl, List.take_length] at h3
      refine ⟨D, flags ns rs, rfl, SqL.of h3, by rw [hfl, len_sv]; exact hl, fun H' sm' => k H' (sm.trans sm')⟩
theorem ok_runsT (T : Txt P K mg A) : FnOk P w K mg base CX0 2 A.a_runs_of A.d_runs_of ["row", "order"] (spRuns K (SqT K)) := by
  have G_count_runs := ok_count (P := P) (w := w) (base := base) T
  refine T.F_runs_of.ok sc_runs_of (fun vs H Q E h => ?_) (fun cdv A' outer s H vs Q E hr h => ?_)
  · obtain ⟨r, l, rs, ns, rfl, _⟩ := h
    rfl
  · obtain ⟨r, l, rs, ns, rfl, h1, h2, hl, k⟩ := h
    refine ⟨_, (pss_one (ps_ret (pe_call G_count_runs (hr.mono (by decide)) rfl T.mg_count_runs T.F_count_runs.kp T.b_count_runs .nil pass0 (pa_cons (pe_lc (own := [("name", 2)]) (g := gName 2) (tt := tYes) rfl sc_runs_of.nd (pi_tup (pv 1)) (blkOk_by (N := ["row", "order", "name"]) (sc := defScope s_runs_of) (by decide +kernel)) (fun _ _ _ _ _ => (pg_name (i := 2) sc_runs_of.nd rfl (Or.inl rfl))) (fun _ _ _ _ _ => pts_nil) (fun _ _ _ _ _ => (pe_cmpR (show OpR _ _ (rIn K false) from op_in_seq) (pv 2) (pv 0) (by with_unfolding_all rfl)))) pa_nil)))), ?_⟩
    refine ⟨_, rfl, l, rfl, ⟨_, h2⟩, fun D hD => lc_it walk_tup (PvS H D fun i => ((flags ns rs).take i).map V.bl) (pv0 hD rfl) (fun i H2 _ p => p.1.tup h2) ?_ ?_⟩
    · rintro i x H3 H4 hi p ⟨rfl, hx⟩
      obtain ⟨z, hz, rfl⟩ := sv_get hx
      refine ⟨rfl, _, rfl, _, rfl, r, _, rfl, .inr (p.1.tup h1), rfl, flat_sv _, p.push hD ?_ ?_⟩
      · rw [if_neg Bool.false_ne_true, inV_str]
        have hf : (flags ns rs)[i]? = some (decide (z ∈ rs)) := by unfold flags; rw [List.getElem?_map, hz]; rfl
        show ((flags ns rs).take (i + 1)).map V.bl = _
        rw [take_succ hf, List.map_append]; rfl
      · show (((flags ns rs).take i).map V.bl).length ≤ 1000000
        rw [List.length_map, List.length_take]
        rw [len_sv] at hi
        omega
    · rintro H3 ⟨sm, h3⟩
      have hfl : (flags ns rs).length = (sv ns).length := by unfold flags; rw [List.length_map, len_sv]
      have h3 : H3 D = some (.lst (((flags ns rs).take (sv ns).length).map V.bl)) := h3
      rw [← hfl, List.take_length] at h3
      refine ⟨D, flags ns rs, rfl, SqL.of h3, by rw [hfl, len_sv]; exact hl, fun H' sm' => k H' (sm.trans sm')⟩
end
end My
set_option maxRecDepth 100000
set_option maxHeartbeats 4000000
namespace My
open PySem L2
theorem itNe {A B : Prop} {x y : V} (h : x = y) (h2 : B) : if (!decide (x = y)) = true then A else B := by
  rw [decide_eq_true h]; exact iteF h2
theorem itNeN {A B : Prop} {x y : V} (h : x ≠ y) (h2 : A) : if (!decide (x = y)) = true then A else B := by
  rw [decide_eq_false h]; exact iteT h2
/-- a def that may raise -/
theorem funX {P : Program} {w : World} {K : PySem.W.Frag} {mg : Str → Option Value} {base : Heap} {CX : CXT} {x qual : Str} {st : Stmt} {f : Addr} {fd : FuncData} {N ps : List Str} {k : Nat} {sp : Sp} (F : Fun K x qual st f fd) (S : FnScope N ps (defScope st)) (len : ∀ vs H Q E, sp vs H Q E → vs.length = ps.length)
    (hbody : ∀ (cdv : Value) (A : Around) (outer : List Env) (s : Shared) (H : Hp) (vs : List V) (Q : VK) (E : XK), Room k (A.deeper (PyProof.Rows.envOfC qual (defScope st) s.heap.objs.size f cdv)) → sp vs H Q E →
      ∃ t, PSs (cxOf CX P w K mg base N qual (defScope st) f cdv A outer s H E) (defBody st) t ∧ t { nx := fun _ H' => Q .non H', rt := Q } (L2.start N vs) H) : FnOk P w K mg base CX (k + 1) f fd ps sp := by
  obtain ⟨oc, od, kV, doc, pm, an, cdv, ct, osl, rfl, lk, hcd⟩ := F.ex
  exact fn_of lk hcd S len fun A outer s H vs Q E hr hsp => hbody cdv A outer s H vs Q E hr hsp
theorem seq_upd {K : PySem.W.Frag} {H : Hp} {a b : Addr} {xs : List V} {u o : HO} (h : SqL K H a xs) (hb : H b = some u) (h1 : ∀ ys, u ≠ .lst ys) (h2 : ∀ c d, u ≠ .frz c d) : SqL K (upd H b o) a xs := by
  rcases h with (r | ⟨c, r⟩) | z
  · exact .inl (.inl (by rw [upd_ne (ne_of r hb (fun z => h1 _ z.symm))]; exact r))
  · exact .inl (.inr ⟨c, by rw [upd_ne (ne_of r hb (fun z => h2 _ _ z.symm))]; exact r⟩)
  · exact .inr z
/-! ### tables -/
theorem krc : ¬ (("columns" : Str) = "rows") := by decide +kernel
def fldsT (ct rt : Addr) : List (Str × V) := putF "rows" (.ref rt) (putF "columns" (.ref ct) [])
theorem fldsT_columns (ct rt : Addr) : (fldsT ct rt).lookup ("columns" : Str) = some (.ref ct) := by
  unfold fldsT; rw [lookup_putF, if_neg krc, lookup_putF, if_pos rfl]
theorem fldsT_rows (ct rt : Addr) : (fldsT ct rt).lookup ("rows" : Str) = some (.ref rt) := by
  unfold fldsT; rw [lookup_putF, if_pos rfl]
/-- at ts stand the lists (or tuples) of texts rs -/
structure Lss (f : List V → HO) (H : Hp) (ts : List Addr) (rs : List (List Str)) : Prop where
  len : ts.length = rs.length
  at_ : ∀ (i : Nat) (t : Addr) (r : List Str), ts[i]? = some t → rs[i]? = some r → H t = some (f (sv r))
theorem Lss.same {f : List V → HO} {H H' : Hp} {ts : List Addr} {rs : List (List Str)} (h : Lss f H ts rs) (e : Same H H') : Lss f H' ts rs := ⟨h.len, fun i t x a b => e _ _ (h.at_ i t x a b)⟩
theorem Lss.nil {f : List V → HO} {H : Hp} : Lss f H [] [] := ⟨rfl, fun i t x h => by simp at h⟩
theorem Lss.app {f : List V → HO} {H : Hp} {ts : List Addr} {rs : List (List Str)} {t : Addr} {r : List Str} (h : Lss f H ts rs) (ht : H t = some (f (sv r))) : Lss f H (ts ++ [t]) (rs ++ [r]) := by
  refine ⟨by rw [List.length_append, List.length_append, h.len]; rfl, fun i u y a b => ?_⟩
  rcases Nat.lt_trichotomy i ts.length with c | c | c
  · rw [List.getElem?_append_left c] at a
    rw [List.getElem?_append_left (by rw [← h.len]; exact c)] at b
    exact h.at_ i u y a b
  · rw [c, List.getElem?_append_right (Nat.le_refl _), Nat.sub_self] at a
    rw [c, h.len, List.getElem?_append_right (Nat.le_refl _), Nat.sub_self] at b
    cases a; cases b; exact ht
  · rw [List.getElem?_append_right (by omega), List.getElem?_eq_none (by simp; omega)] at a
    cases a
theorem Lss.get {f : List V → HO} {H : Hp} {ts : List Addr} {rs : List (List Str)} (h : Lss f H ts rs) {i : Nat} {t : Addr} (hi : ts[i]? = some t) : ∃ r, rs[i]? = some r ∧ H t = some (f (sv r)) := by
  have hx : i < rs.length := by rw [← h.len]; exact (List.getElem?_eq_some_iff.mp hi).1
  exact ⟨rs[i], List.getElem?_eq_getElem hx, h.at_ i _ _ hi (List.getElem?_eq_getElem hx)⟩
theorem refs_get {ts : List Addr} {i : Nat} {v : V} (h : (ts.map V.ref)[i]? = some v) : ∃ t, ts[i]? = some t ∧ v = .ref t := by
  rw [List.getElem?_map] at h
  cases e : ts[i]? with
  | none => rw [e] at h; cases h
  | some t => rw [e] at h; exact ⟨t, rfl, (Option.some.inj h).symm⟩
/-- the row in the columns' sequence -/
def canon (cs r : List Str) : List Str := cs.filter fun x => decide (x ∈ r)
theorem canon_T {l r : List Str} {z : Str} (hm : z ∈ r) : canon (l ++ [z]) r = canon l r ++ [z] := by
  unfold canon; rw [List.filter_append]; simp [hm]
theorem canon_F {l r : List Str} {z : Str} (hm : z ∉ r) : canon (l ++ [z]) r = canon l r := by
  unfold canon; rw [List.filter_append]; simp [hm]
theorem Lss.updT {H : Hp} {ts : List Addr} {rs : List (List Str)} {l : Addr} {u o : HO} (h : Lss .tup H ts rs) (hl : H l = some u) (hu : ∀ xs, u ≠ .tup xs) : Lss .tup (upd H l o) ts rs := ⟨h.len, fun i t x a b => by
  have := h.at_ i t x a b
  rw [upd_ne (ne_of this hl (fun z => hu _ z.symm))]
  exact this⟩
/-- the table with the columns cs and the rows rs stands at p -/
def Tb (C : Addr) (H : Hp) (p : Addr) (cs : List Str) (rs : List (List Str)) : Prop :=
  ∃ dx ct rt ts, H p = some (.ins C dx (fldsT ct rt)) ∧ H ct = some (.tup (sv cs)) ∧ H rt = some (.tup (ts.map V.ref)) ∧ Lss .tup H ts (rs.map (canon cs))
theorem Tb.same {C : Addr} {H H' : Hp} {p : Addr} {cs : List Str} {rs : List (List Str)} (h : Tb C H p cs rs) (e : Same H H') : Tb C H' p cs rs :=
  let ⟨dx, ct, rt, ts, h1, h2, h3, h4⟩ := h; ⟨dx, ct, rt, ts, e _ _ h1, e _ _ h2, e _ _ h3, h4.same e⟩
section
variable {P : Program} {w : World} {K : PySem.W.Frag} {mg : Str → Option Value} {base : Heap} {A : Ad}
def spCheck (C : Addr) (sq2 : Hp → Addr → List V → Prop) : Sp := fun vs H Q _ => ∃ p l cs rs ns, vs = [.ref p, .ref l] ∧ Tb C H p cs rs ∧ sq2 H l (sv ns) ∧ ns.length ≤ 1000 ∧ fault cs ns = none ∧ ∀ H', Same H H' → Q .non H'
theorem ok_check (T : Txt P K mg A) : FnOk P w K mg base CX0 3 A.a_check_order A.d_check_order ["table", "order"] (spCheck A.C_Table (SqL K)) := by
  have G_order_fault := ok_fault (P := P) (w := w) (base := base) T
  refine T.F_check_order.ok sc_check_order (fun vs H Q E h => ?_) (fun cdv A' outer s H vs Q E hr h => ?_)
  · obtain ⟨p, l, cs, rs, ns, rfl, _⟩ := h
    rfl
  · obtain ⟨p, l, cs, rs, ns, rfl, ht, h2, hl, hf, k⟩ := h
    obtain ⟨dx, ct, rt, ts, h1, hc, _, _⟩ := ht
    refine ⟨_, (pss_cons (ps_set (i := 2) sc_check_order.nd rfl (Or.inl rfl) (pe_call G_order_fault (hr.mono (by decide)) rfl T.mg_order_fault T.F_order_fault.kp T.b_order_fault .nil pass0 (pa_cons (pe_fld (pv 0) rfl) (pa_cons (pv 1) pa_nil))))
      (pss_one (ps_if (pt_cmpR op_notN (pv 2) pe_non (nomark _)) (pss_one ps_never) pss_nil))), ?_⟩
    refine ⟨_, rfl, _, _, _, _, _, rfl, h1, T.cl_Table, T.n_Table_columns, fldsT_columns _ _, _, rfl, ct, l, cs, ns, rfl, SqT.of hc, h2, hl, fun H2 sm => ?_⟩
    rw [hf]
    refine ⟨_, rfl, rfl, _, rfl, itNe rfl ?_⟩
    exact k _ sm
theorem ok_checkT (T : Txt P K mg A) : FnOk P w K mg base CX0 3 A.a_check_order A.d_check_order ["table", "order"] (spCheck A.C_Table (SqT K)) := by
  have G_order_faultT := ok_faultT (P := P) (w := w) (base := base) T
  refine T.F_check_order.ok sc_check_order (fun vs H Q E h => ?_) (fun cdv A' outer s H vs Q E hr h => ?_)
  · obtain ⟨p, l, cs, rs, ns, rfl, _⟩ := h
    rfl
  · obtain ⟨p, l, cs, rs, ns, rfl, ht, h2, hl, hf, k⟩ := h
    obtain ⟨dx, ct, rt, ts, h1, hc, _, _⟩ := ht
    refine ⟨_, (pss_cons (ps_set (i := 2) sc_check_order.nd rfl (Or.inl rfl) (pe_call G_order_faultT (hr.mono (by decide)) rfl T.mg_order_fault T.F_order_fault.kp T.b_order_fault .nil pass0 (pa_cons (pe_fld (pv 0) rfl) (pa_cons (pv 1) pa_nil))))
      (pss_one (ps_if (pt_cmpR op_notN (pv 2) pe_non (nomark _)) (pss_one ps_never) pss_nil))), ?_⟩
    refine ⟨_, rfl, _, _, _, _, _, rfl, h1, T.cl_Table, T.n_Table_columns, fldsT_columns _ _, _, rfl, ct, l, cs, ns, rfl, SqT.of hc, h2, hl, fun H2 sm => ?_⟩
    rw [hf]
    refine ⟨_, rfl, rfl, _, rfl, itNe rfl ?_⟩
    exact k _ sm
theorem exc_same {H : Hp} {a d : Addr} {o1 o2 o3 o4 : HO} (ha : H a = none) (hd : H d = none) : Same H (upd (L2.del (upd (upd (upd H a o1) d o2) a o3) a) d o4) := fun b o e => by
  rw [upd_ne (ne_of_none e hd), L2.del_ne (ne_of_none e ha), upd_ne (ne_of_none e ha), upd_ne (ne_of_none e hd), upd_ne (ne_of_none e ha)]
  exact e
/-- a list that is no order: BadOrder with the index -/
def spCheckX (K : PySem.W.Frag) (C B : Addr) : Sp := fun vs H Q E => ∃ p l cs rs ns i, vs = [.ref p, .ref l] ∧ Tb C H p cs rs ∧ SqL K H l (sv ns) ∧ ns.length ≤ 1000 ∧ fault cs ns = some i ∧
  ∀ d H', Same H H' → H' d = some (.xd [("index", .int (i : Nat))]) → E (.ref B) (some d) H'
theorem fault_lt {cs ns : List Str} {i : Nat} (h : fault cs ns = some i) : i ≤ ns.length := by
  unfold fault at h
  cases hs : stray cs ns with
  | some j =>
    rw [hs] at h
    cases h
    unfold stray at hs
    rw [List.find?_range_eq_some] at hs
    exact Nat.le_of_lt (List.mem_range.mp hs.2.1)
  | none =>
    rw [hs] at h
    have h : (if ns.length < cs.length then some ns.length else none) = some i := h
    split at h
    · cases h; exact Nat.le_refl _
    · cases h
theorem ok_checkX (T : Txt P K mg A) : FnOk P w K mg base (L2.CX P w) 3 A.a_check_order A.d_check_order ["table", "order"] (spCheckX K A.C_Table A.C_BadOrder) := by
  have G_order_fault := ok_fault (P := P) (w := w) (base := base) T
  have G_BadOrder_init := ok_BadOrder (P := P) (w := w) (base := base) T
  refine funX T.F_check_order sc_check_order (fun vs H Q E h => ?_) (fun cdv A' outer s H vs Q E hr h => ?_)
  · obtain ⟨p, l, cs, rs, ns, i, rfl, _⟩ := h
    rfl
  · obtain ⟨p, l, cs, rs, ns, i, rfl, ht, h2, hl, hf, k⟩ := h
    obtain ⟨dx, ct, rt, ts, h1, hc, _, _⟩ := ht
    refine ⟨_, (pss_cons (ps_set (i := 2) sc_check_order.nd rfl (Or.inl rfl) (pe_call G_order_fault (hr.mono (by decide)) rfl T.mg_order_fault T.F_order_fault.kp T.b_order_fault .nil pass0 (pa_cons (pe_fld (pv 0) rfl) (pa_cons (pv 1) pa_nil))))
      (pss_one (ps_if (pt_cmpR op_notN (pv 2) pe_non (nomark _)) (pss_one (ps_raise rfl (takes_of rfl rfl rfl rfl) (pmk_oex T.SC_BadOrder.ox T.ii_BadOrder T.ti_BadOrder G_BadOrder_init (hr.mono (by decide)) T.b_BadOrder_init .nil pass0 rfl T.mg_BadOrder (pa_cons (pv 2) pa_nil)))) pss_nil))), ?_⟩
    refine ⟨_, rfl, _, _, _, _, _, rfl, h1, T.cl_Table, T.n_Table_columns, fldsT_columns _ _, _, rfl, ct, l, cs, ns, rfl, SqT.of hc, h2, hl, fun H2 sm => ?_⟩
    rw [hf]
    have hi := fault_lt hf
    refine ⟨_, rfl, rfl, _, rfl, itNeN (fun z => nomatch z) ⟨_, rfl, (by decide : 1 ≤ 1000), fun a ha => ⟨a, _, rfl, ⟨_, rfl, by rw [Int.natAbs_natCast]; omega⟩, upd_same, fun d hd hne => ⟨rfl, d, _, upd_same, by rw [upd_ne hne, upd_same], by rw [upd_ne hne] at hd; exact hd, ?_⟩⟩⟩⟩
    rw [upd_ne hne] at hd
    exact k d _ (sm.trans (exc_same ha hd)) upd_same
/-! ### Table(..) -/
def spCols (K : PySem.W.Frag) : Sp := fun vs H Q _ => ∃ l cs, vs = [.ref l] ∧ SqL K H l (sv cs) ∧ (∀ z ∈ cs, Good z) ∧ cs.Nodup ∧ cs.length ≤ 12 ∧ ∀ H', Same H H' → Q .non H'
theorem ok_cols (T : Txt P K mg A) : FnOk P w K mg base CX0 3 A.a_check_columns A.d_check_columns ["columns"] (spCols K) := by
  have G_first_bad_name := ok_firstBad (P := P) (w := w) (base := base) T
  refine T.F_check_columns.ok sc_check_columns (fun vs H Q E h => ?_) (fun cdv A' outer s H vs Q E hr h => ?_)
  · obtain ⟨l, cs, rfl, _⟩ := h
    rfl
  · obtain ⟨l, cs, rfl, h1, g, nd, hl, k⟩ := h
    refine ⟨_, (pss_cons (ps_if (pt_cmpR op_gt (pe_callB call_len_seq (by rfl) T.n_len (by decide +kernel) (pa_cons (pv 0) pa_nil)) (ClX.pe_cval (pe_glob (v := .ref A.C_Table) rfl T.mg_Table rfl)) (nomark _)) (pss_one ps_never) pss_nil)
      (pss_cons (ps_set (i := 1) sc_check_columns.nd rfl (Or.inl rfl) (pe_call G_first_bad_name (hr.mono (by decide)) rfl T.mg_first_bad_name T.F_first_bad_name.kp T.b_first_bad_name .nil pass0 (pa_cons (pv 0) pa_nil)))
      (pss_one (ps_if (pt_cmpR op_notN (pv 1) pe_non (nomark _)) (pss_one ps_never) pss_nil)))), ?_⟩
    obtain ⟨u, hu⟩ := T.cv_Table_MOST_COLUMNS
    refine ⟨_, rfl, l, _, rfl, .inl h1, _, _, _, _, rfl, T.cr_Table, hu, _, _, rfl, rfl, _, rfl, itN (by rw [len_sv]; omega) ?_⟩
    exact ⟨_, rfl, l, cs, rfl, h1, g, nd, by omega, fun H2 sm => ⟨_, rfl, rfl, _, rfl, itNe rfl (k _ sm)⟩⟩
def spChRows (K : PySem.W.Frag) : Sp := fun vs H Q _ => ∃ l r cs ts rs, vs = [.ref l, .ref r] ∧ SqL K H l (sv cs) ∧ SqL K H r (ts.map V.ref) ∧ Lss .lst H ts rs ∧ rs.length ≤ 48 ∧ (∀ x ∈ rs, stray cs x = none ∧ x.length ≤ 1000) ∧ ∀ H', Same H H' → Q .non H'
theorem ok_chRows (T : Txt P K mg A) : FnOk P w K mg base CX0 2 A.a_check_rows A.d_check_rows ["columns", "rows"] (spChRows K) := by
  have G_first_stray := ok_stray (P := P) (w := w) (base := base) T
  refine T.F_check_rows.ok sc_check_rows (fun vs H Q E h => ?_) (fun cdv A' outer s H vs Q E hr h => ?_)
  · obtain ⟨l, r, cs, ts, rs, rfl, _⟩ := h
    rfl
  · obtain ⟨l, r, cs, ts, rs, rfl, h1, h2, hs, hl, hg, k⟩ := h
    refine ⟨_, (pss_cons (ps_if (pt_cmpR op_gt (pe_callB call_len_seq (by rfl) T.n_len (by decide +kernel) (pa_cons (pv 1) pa_nil)) (ClX.pe_cval (pe_glob (v := .ref A.C_Table) rfl T.mg_Table rfl)) (nomark _)) (pss_one ps_never) pss_nil)
      (pss_one (ps_for PassesOwn.never rfl (pi_enum (by rfl) T.n_enumerate (pa_cons (pv 1) pa_nil)) (pg_tup (by rfl) (pgs_cons (pg_name (i := 2) sc_check_rows.nd rfl (Or.inl rfl)) (pgs_cons (pg_name (i := 3) sc_check_rows.nd rfl (Or.inl rfl)) pgs_nil)))
        (pss_one (ps_if (pt_cmpR op_notN (pe_call G_first_stray (hr.mono (by decide)) rfl T.mg_first_stray T.F_first_stray.kp T.b_first_stray .nil pass0 (pa_cons (pv 0) (pa_cons (pv 3) pa_nil))) pe_non (nomark _)) (pss_one ps_never) pss_nil))))), ?_⟩
    obtain ⟨u, hu⟩ := T.cv_Table_MOST_ROWS
    refine ⟨_, rfl, r, _, rfl, .inl h2, _, _, _, _, rfl, T.cr_Table, hu, _, _, rfl, rfl, _, rfl, itN (by rw [List.length_map, hs.len]; omega) ?_⟩
    refine ⟨_, rfl, r, _, rfl, h2, for_it walk_enum (fun i σ H2 => Same H H2 ∧ ∃ u1 u2 : Option V, σ = [some (.ref l), some (.ref r), u1, u2]) ⟨Same.refl _, none, none, rfl⟩ (fun i σ H2 _ p => p.1.seq h2) ?_ ?_⟩
    · rintro i x σ H2 H3 hi ⟨sm, u1, u2, rfl⟩ ⟨t, _, _, rfl, ht, rfl, ⟨⟩, hx⟩
      obtain ⟨b, hb, rfl⟩ := refs_get hx
      obtain ⟨y, hy, ho⟩ := hs.get hb
      have g := hg y (List.mem_of_getElem? hy)
      have s3 : Same H (upd H2 t (.tup [.int (i : Nat), .ref b])) := sm.trans (same_new ht)
      refine ⟨t, _, rfl, SqT.of upd_same, rfl, _, _, rfl, _, _, rfl, rfl, ?_⟩
      refine ⟨_, rfl, _, rfl, l, b, cs, y, rfl, s3.seq h1, SqL.of (s3 _ _ ho), g.2, fun H4 sm4 => ?_⟩
      rw [g.1]
      exact ⟨rfl, _, rfl, itNe rfl ⟨s3.trans sm4, _, _, rfl⟩⟩
    · rintro σ H2 ⟨sm, u1, u2, rfl⟩
      exact k H2 sm
def spInOrder (C : Addr) (K : PySem.W.Frag) : Sp := fun vs H Q _ => ∃ p l dx ct cs r fs, vs = [.ref p, .ref l] ∧ H p = some (.ins C dx fs) ∧ fs.lookup ("columns" : Str) = some (.ref ct) ∧ H ct = some (.tup (sv cs)) ∧ SqL K H l (sv r) ∧ cs.length ≤ 1000 ∧
  ∀ t H', Same H H' → H' t = some (.tup (sv (canon cs r))) → Q (.ref t) H'
theorem ok_inOrder (T : Txt P K mg A) : FnOk P w K mg base CX0 1 A.a_Table_in_order A.d_Table_in_order ["self", "names"] (spInOrder A.C_Table K) := by
  refine T.F_Table_in_order.ok sc_Table_in_order (fun vs H Q E h => ?_) (fun cdv A' outer s H vs Q E hr h => ?_)
  · obtain ⟨p, l, dx, ct, cs, r, fs, rfl, _⟩ := h
    rfl
  · obtain ⟨p, l, dx, ct, cs, r, fs, rfl, h1, hct, hc, h2, hl, k⟩ := h
    refine ⟨_, (pss_one (ps_ret (pe_callTy call_tuple_of (by rfl) T.n_tuple (by decide +kernel) (pa_cons (pe_lc (own := [("name", 2)]) (g := gName 2) (tt := _) rfl sc_Table_in_order.nd (pi_tup (pe_fld (pv 0) rfl)) (blkOk_by (N := ["self", "names", "name"]) (sc := defScope s_Table_in_order) (by decide +kernel)) (fun _ _ _ _ _ => (pg_name (i := 2) sc_Table_in_order.nd rfl (Or.inl rfl))) (fun _ _ _ _ _ => (pts_one (pt_cmpR (show OpR _ _ (rIn K false) from op_in_seq) (pv 2) (pv 1) (by with_unfolding_all rfl)))) (fun _ _ _ _ _ => (pv 2))) pa_nil)))), ?_⟩
    have stepT : ∀ i z, cs[i]? = some z → z ∈ r → sv (canon (cs.take (i + 1)) r) = sv (canon (cs.take i) r) ++ [V.str z] := fun i z hz hm => by
      rw [take_succ hz, canon_T hm]; exact List.map_append
    have stepF : ∀ i z, cs[i]? = some z → z ∉ r → sv (canon (cs.take (i + 1)) r) = sv (canon (cs.take i) r) := fun i z hz hm => by
      rw [take_succ hz, canon_F hm]
    refine ⟨_, rfl, p, _, dx, fs, _, rfl, h1, T.cl_Table, T.n_Table_columns, hct, ct, rfl, ⟨_, SqT.of hc⟩, fun D hD => lc_it walk_tup (PvS H D fun i => sv (canon (cs.take i) r)) (pv0 hD rfl) (fun i H2 _ q => q.1.tup (SqT.of hc)) ?_ ?_⟩
    · rintro i x H3 H4 hi q ⟨rfl, hx⟩
      obtain ⟨z, hz, rfl⟩ := sv_get hx
      refine ⟨rfl, _, rfl, _, rfl, l, _, rfl, .inl (q.1.seq h2), rfl, flat_sv _, _, rfl, ?_⟩
      rw [if_neg Bool.false_ne_true, inV_str]
      have hlen : (sv (canon (cs.take i) r)).length ≤ 1000000 := by
        have := List.length_filter_le (fun x => decide (x ∈ r)) (cs.take i)
        rw [List.length_take] at this
        rw [len_sv]; unfold canon; omega
      by_cases hm : z ∈ r
      · exact ifT (decide_eq_true hm) ⟨_, rfl, q.push hD (stepT i z hz hm) hlen⟩
      · exact ifF (decide_eq_false hm) (q.skip (stepF i z hz hm))
    · rintro H3 ⟨sm, h3⟩
      have h3 : H3 D = some (.lst (sv (canon (cs.take (sv cs).length) r))) := h3
      rw [len_sv, List.take_length] at h3
      exact ⟨D, _, rfl, .inl ⟨SqL.of h3, fun t ht => k t _ (sm.trans (same_new ht)) upd_same⟩⟩
def spTable (C : Addr) (K : PySem.W.Frag) : Sp := fun vs H Q _ => ∃ p l r dx cs ts rs, vs = [.ref p, .ref l, .ref r] ∧ H p = some (.ins C dx []) ∧ SqL K H l (sv cs) ∧ SqL K H r (ts.map V.ref) ∧ Lss .lst H ts rs ∧
  (∀ z ∈ cs, Good z) ∧ cs.Nodup ∧ cs.length ≤ 12 ∧ rs.length ≤ 48 ∧ (∀ x ∈ rs, stray cs x = none ∧ x.length ≤ 1000) ∧ ∀ H', (∀ b o, b ≠ p → H b = some o → H' b = some o) → Tb C H' p cs rs → Q .non H'
theorem ok_table (T : Txt P K mg A) : FnOk P w K mg base CX0 4 A.a_Table_init A.d_Table_init ["self", "columns", "rows"] (spTable A.C_Table K) := by
  have G_check_columns := ok_cols (P := P) (w := w) (base := base) T
  have G_check_rows := ok_chRows (P := P) (w := w) (base := base) T
  have G_Table_in_order := ok_inOrder (P := P) (w := w) (base := base) T
  refine T.F_Table_init.ok sc_Table_init (fun vs H Q E h => ?_) (fun cdv A' outer s H vs Q E hr h => ?_)
  · obtain ⟨p, l, r, dx, cs, ts, rs, rfl, _⟩ := h
    rfl
  · obtain ⟨p, l, r, dx, cs, ts, rs, rfl, hp, h1, h2, hs, g, nd, hc, hrs, hst, k⟩ := h
    refine ⟨_, (pss_cons (ps_expr (pe_call G_check_columns (hr.mono (by decide)) rfl T.mg_check_columns T.F_check_columns.kp T.b_check_columns .nil pass0 (pa_cons (pv 1) pa_nil)))
      (pss_cons (ps_expr (pe_call G_check_rows (hr.mono (by decide)) rfl T.mg_check_rows T.F_check_rows.kp T.b_check_rows .nil pass0 (pa_cons (pv 1) (pa_cons (pv 2) pa_nil))))
      (pss_cons (ps_fld (pv 0) (pe_callTy call_tuple_of (by rfl) T.n_tuple (by decide +kernel) (pa_cons (pv 1) pa_nil)) rfl)
      (pss_one (ps_fld (pv 0) (pe_callTy call_tuple_of (by rfl) T.n_tuple (by decide +kernel) (pa_cons (pe_lc (own := [("row", 3)]) (g := gName 3) (tt := tYes) rfl sc_Table_init.nd (pi_list (pv 2)) (blkOk_by (N := ["self", "columns", "rows", "row"]) (sc := defScope s_Table_init) (by decide +kernel)) (fun _ _ _ _ _ => (pg_name (i := 3) sc_Table_init.nd rfl (Or.inl rfl))) (fun _ _ _ _ _ => pts_nil) (fun _ _ _ _ _ => (pe_meth (pv 0) T.cl_Table T.m_Table_in_order G_Table_in_order (hr.mono (by decide)) T.b_Table_in_order .nil pass0 (pa_cons (pv 3) pa_nil)))) pa_nil)) rfl))))), ?_⟩
    refine ⟨_, rfl, l, cs, rfl, h1, g, nd, hc, fun H1 s1 => ?_⟩
    refine ⟨_, rfl, _, rfl, l, r, cs, ts, rs, rfl, s1.seq h1, s1.seq h2, hs.same s1, hrs, hst, fun H2 s2 => ?_⟩
    have s2 := s1.trans s2
    refine ⟨_, rfl, l, _, rfl, .inl ⟨s2.seq h1, fun ct hct => ?_⟩⟩
    have hp2 : upd H2 ct (.tup (sv cs)) p = some (.ins A.C_Table dx []) := by rw [upd_ne (ne_of_none (s2 _ _ hp) hct)]; exact s2 _ _ hp
    refine ⟨_, rfl, p, _, dx, [], rfl, hp2, T.cl_Table, T.n_Table_columns, (by show 0 < 1000; decide), ?_⟩
    have npc : ct ≠ p := fun z => by rw [z] at hct; rw [s2 _ _ hp] at hct; cases hct
    generalize hX : upd (upd H2 ct _) p _ = H3
    have hp3 : H3 p = some (.ins A.C_Table dx (putF "columns" (.ref ct) [])) := by rw [← hX]; exact upd_same
    have hc3 : H3 ct = some (.tup (sv cs)) := by rw [← hX, upd_ne npc]; exact upd_same
    have sm3 : ∀ b o, b ≠ p → H b = some o → H3 b = some o := fun b o hb e => by
      rw [← hX, upd_ne hb, upd_ne (ne_of_none (s2 _ _ e) hct)]; exact s2 _ _ e
    have h23 : SqL K H3 r (ts.map V.ref) := by
      have := (s2.trans (same_new (o := .tup (sv cs)) hct)).seq h2
      rw [← hX]; exact seq_upd this hp2 (fun xs z => nomatch z) (fun o u z => nomatch z)
    have hs3 : Lss .lst H3 ts rs := ⟨hs.len, fun i t x a b => sm3 t _ (ne_of (hs.at_ i t x a b) hp (fun z => nomatch z)) (hs.at_ i t x a b)⟩
    clear hX hp2
    have hlk : (putF "columns" (.ref ct) ([] : List (Str × V))).lookup ("columns" : Str) = some (.ref ct) := by rw [lookup_putF, if_pos rfl]
    have hlm : (putF "columns" (.ref ct) ([] : List (Str × V))).lookup ("_in_order" : Str) = none := by rw [lookup_putF, if_neg (by decide +kernel)]; rfl
    refine ⟨_, rfl, r, rfl, ⟨_, h23⟩, fun D hD => lc_it walk_list (fun i H4 => Same H3 H4 ∧ ∃ us : List Addr, H4 D = some (.lst (us.map V.ref)) ∧ Lss .tup H4 us ((rs.take i).map (canon cs))) ⟨same_new hD, [], upd_same, Lss.nil⟩ (fun i H4 _ q => q.1.seq h23) ?_ ?_⟩
    · rintro i x H4 H5 hi ⟨s4, us, hd4, hl4⟩ ⟨rfl, hx⟩
      obtain ⟨b, hb, rfl⟩ := refs_get hx
      obtain ⟨y, hy, ho⟩ := (hs3.same s4).get hb
      refine ⟨rfl, _, rfl, p, dx, _, rfl, s4 _ _ hp3, hlm, _, rfl, p, b, dx, ct, cs, y, _, rfl, s4 _ _ hp3, hlk, s4 _ _ hc3, SqL.of ho, by omega, fun t H6 s6 ht => ?_⟩
      have hd6 := s6 _ _ hd4
      refine ⟨_, hd6, small_int (by rw [List.length_map, hl4.len, List.length_map, List.length_take]; omega), ?_, us ++ [t], ?_, ?_⟩
      · intro c o e
        rw [upd_ne (ne_of_none e hD)]
        exact s6 _ _ (s4 _ _ e)
      · rw [List.map_append]; exact upd_same
      · rw [take_succ hy, List.map_append]
        exact ((hl4.same s6).app ht).updT hd6 (fun xs z => nomatch z)
    · rintro H4 ⟨s4, us, hd4, hl4⟩
      rw [List.length_map, hs.len, List.take_length] at hl4
      refine ⟨D, _, rfl, .inl ⟨SqL.of hd4, fun rt hrt => ?_⟩⟩
      have hp5 : upd H4 rt (.tup (us.map V.ref)) p = some (.ins A.C_Table dx (putF "columns" (.ref ct) [])) := by rw [upd_ne (ne_of_none (s4 _ _ hp3) hrt)]; exact s4 _ _ hp3
      refine ⟨_, rfl, p, _, dx, _, rfl, hp5, T.cl_Table, T.n_Table_rows, (by show 1 < 1000; decide), ?_⟩
      have nrp : rt ≠ p := fun z => by rw [z] at hrt; rw [s4 _ _ hp3] at hrt; cases hrt
      have nrc : ct ≠ rt := ne_of_none (s4 _ _ hc3) hrt
      refine k _ (fun b o hb e => ?_) ⟨dx, ct, rt, us, upd_same, ?_, ?_, ?_⟩
      · have z := s4 _ _ (sm3 b o hb e)
        rw [upd_ne hb, upd_ne (ne_of_none z hrt)]
        exact z
      · rw [upd_ne npc, upd_ne nrc]; exact s4 _ _ hc3
      · rw [upd_ne nrp]; exact upd_same
      · exact (hl4.same (same_new (o := .tup (us.map V.ref)) hrt)).updT hp5 (fun xs z => nomatch z)
end
end My
set_option maxRecDepth 100000
set_option maxHeartbeats 4000000
namespace My
open PySem L2
section
variable {P : Program} {w : World} {K : PySem.W.Frag} {mg : Str → Option Value} {base : Heap} {A : Ad}
/-! ### len(table), iter(table) -/
def spLen (C : Addr) : Sp := fun vs H Q _ => ∃ p cs rs, vs = [.ref p] ∧ Tb C H p cs rs ∧ Q (.int (rs.length : Nat)) H
theorem ok_len (T : Txt P K mg A) : FnOk P w K mg base CX0 1 A.a_Table_len A.d_Table_len ["self"] (spLen A.C_Table) := by
  refine T.F_Table_len.ok sc_Table_len (fun vs H Q E h => ?_) (fun cdv A' outer s H vs Q E hr h => ?_)
  · obtain ⟨p, cs, rs, rfl, _⟩ := h
    rfl
  · obtain ⟨p, cs, rs, rfl, ⟨dx, ct, rt, ts, h1, hc, h3, hs⟩, k⟩ := h
    refine ⟨_, (pss_one (ps_ret (pe_callB call_len_seq (by rfl) T.n_len (by decide +kernel) (pa_cons (pe_fld (pv 0) rfl) pa_nil)))), ?_⟩
    refine ⟨_, rfl, _, _, _, _, _, rfl, h1, T.cl_Table, T.n_Table_rows, fldsT_rows _ _, rt, _, rfl, .inr (SqT.of h3), ?_⟩
    rw [List.length_map, hs.len, List.length_map]
    exact k
def spIter (C : Addr) : Sp := fun vs H Q _ => ∃ p dx ct rt, vs = [.ref p] ∧ H p = some (.ins C dx (fldsT ct rt)) ∧ (∃ xs, H rt = some (.tup xs)) ∧ ∀ it, H it = none → Q (.ref it) (upd H it (TitO rt it 0))
theorem ok_iter (T : Txt P K mg A) : FnOk P w K mg base CX0 1 A.a_Table_iter A.d_Table_iter ["self"] (spIter A.C_Table) := by
  refine T.F_Table_iter.ok sc_Table_iter (fun vs H Q E h => ?_) (fun cdv A' outer s H vs Q E hr h => ?_)
  · obtain ⟨p, dx, ct, rt, rfl, _⟩ := h
    rfl
  · obtain ⟨p, dx, ct, rt, rfl, h1, ⟨xs, h3⟩, k⟩ := h
    refine ⟨_, (pss_one (ps_ret (pe_callB call_iterT (by rfl) T.n_iter (by decide +kernel) (pa_cons (pe_fld (pv 0) rfl) pa_nil)))), ?_⟩
    exact ⟨_, rfl, _, _, _, _, _, rfl, h1, T.cl_Table, T.n_Table_rows, fldsT_rows _ _, rt, _, rfl, SqT.of h3, k⟩
/-! ### the picture -/
theorem pad9 : ∀ n : Fin 9, PadOk ((n.val : Nat) : Int) = true := by decide +kernel
theorem pad_ok {W : Int} (h0 : 0 ≤ W) (h1 : W ≤ 8) : PadOk W = true := by
  have := pad9 ⟨W.toNat, by omega⟩
  have e : ((W.toNat : Nat) : Int) = W := by omega
  rw [← e]; exact this
theorem rMaxDf_mk {K : PySem.W.Frag} {a : Addr} {ns : List Int} {d W : Int} {H : Hp} {Q : VK} (h : SqL K H a (ns.map V.int)) (h0 : ns = [] → d = W) (h1 : ∀ m, m ∈ ns → (∀ y ∈ ns, y ≤ m) → m = W) (q : Q (.int W) H) : rMaxDf K [.ref a] [.int d] H Q :=
  ⟨a, ns, d, rfl, rfl, h, fun e => by rw [h0 e]; exact q, fun m hm hb => by rw [h1 m hm hb]; exact q⟩
theorem sv_snoc (l : List Str) (x : Str) : sv (l ++ [x]) = sv l ++ [V.str x] := List.map_append
/-- words and a width that fit -/
structure Wd (ws : List Str) (W : Int) : Prop where
  n : ws.length ≤ 12
  l : ∀ x ∈ ws, x.length ≤ 8
  w0 : 0 ≤ W
  w1 : W ≤ 8
theorem Wd.len {ws : List Str} {W : Int} (h : Wd ws W) : ∀ y ∈ ws.map (fun x => Txt.ljust x W), y.length ≤ 16 := fun y hy => by
  obtain ⟨x, hx, rfl⟩ := List.mem_map.mp hy
  rw [ljust_len]
  have := h.l x hx
  have := h.w1
  omega
theorem ls_sp : Str.length (" " : Str) = 1 := by decide
theorem ls_nl : Str.length ("\n" : Str) = 1 := by decide
theorem Wd.fit {ws : List Str} {W : Int} (h : Wd ws W) : ((ws.map (fun x => Txt.ljust x W)).map (·.length)).sum + (ws.map (fun x => Txt.ljust x W)).length * Str.length (" " : Str) ≤ 16777216 ∧ (fill ws W).length ≤ 12 * (16 + 1) := by
  have := fits_join (a := (" " : Str)) (n := 12) h.len (by rw [List.length_map]; exact h.n) (by rw [ls_sp]; decide)
  rw [ls_sp] at this
  exact ⟨by rw [ls_sp]; exact this.1, this.2⟩
def spFilled (sq : Hp → Addr → List V → Prop) : Sp := fun vs H Q _ => ∃ l ws W, vs = [.ref l, .int W] ∧ sq H l (sv ws) ∧ Wd ws W ∧ ∀ H', Same H H' → Q (.str (fill ws W)) H'
theorem ok_filled (T : Txt P K mg A) : FnOk P w K mg base CX0 1 A.a_filled A.d_filled ["words", "width"] (spFilled (SqL K)) := by
  refine T.F_filled.ok sc_filled (fun vs H Q E h => ?_) (fun cdv A' outer s H vs Q E hr h => ?_)
  · obtain ⟨l, ws, W, rfl, _⟩ := h
    rfl
  · obtain ⟨l, ws, W, rfl, h1, hw, k⟩ := h
    refine ⟨_, (pss_one (ps_ret (pe_join pe_str (pe_lc (own := [("word", 2)]) (g := gName 2) (tt := tYes) rfl sc_filled.nd (pi_list (pv 0)) (blkOk_by (N := ["words", "width", "word"]) (sc := defScope s_filled) (by decide +kernel)) (fun _ _ _ _ _ => (pg_name (i := 2) sc_filled.nd rfl (Or.inl rfl))) (fun _ _ _ _ _ => pts_nil) (fun _ _ _ _ _ => (pe_m1 PySem.F.slot_str_ljust PySem.F.type_str_ljust mt_ljust (pv 2) (pv 1))))))), ?_⟩
    refine ⟨⟨_, rfl⟩, _, rfl, l, rfl, ⟨_, h1⟩, fun D hD => lc_it walk_list (PvS H D fun i => sv ((ws.map (fun x => Txt.ljust x W)).take i)) (pv0 hD rfl) (fun i H2 _ q => q.1.seq h1) ?_ ?_⟩
    · rintro i x H3 H4 hi q ⟨rfl, hx⟩
      obtain ⟨z, hz, rfl⟩ := sv_get hx
      refine ⟨rfl, _, rfl, ⟨_, rfl⟩, _, rfl, z, W, rfl, rfl, pad_ok hw.w0 hw.w1, q.push hD ?_ ?_⟩
      · show sv ((ws.map (fun x => Txt.ljust x W)).take (i + 1)) = _
        rw [take_succ (x := Txt.ljust z W) (by rw [List.getElem?_map, hz]; rfl)]
        exact List.map_append
      · show (sv ((ws.map (fun x => Txt.ljust x W)).take i)).length ≤ 1000000
        rw [len_sv, List.length_take]
        rw [len_sv] at hi
        have := hw.n
        omega
    · rintro H3 ⟨sm, h3⟩
      have h3 : H3 D = some (.lst (sv ((ws.map (fun x => Txt.ljust x W)).take (sv ws).length))) := h3
      rw [List.take_of_length_le (by rw [List.length_map, len_sv]; exact Nat.le_refl _)] at h3
      exact ⟨_, D, _, rfl, rfl, .inl (SqL.of h3), hw.fit.1, k H3 sm⟩
theorem ok_filledT (T : Txt P K mg A) : FnOk P w K mg base CX0 1 A.a_filled A.d_filled ["words", "width"] (spFilled (SqT K)) := by
  refine T.F_filled.ok sc_filled (fun vs H Q E h => ?_) (fun cdv A' outer s H vs Q E hr h => ?_)
  · obtain ⟨l, ws, W, rfl, _⟩ := h
    rfl
  · obtain ⟨l, ws, W, rfl, h1, hw, k⟩ := h
    refine ⟨_, (pss_one (ps_ret (pe_join pe_str (pe_lc (own := [("word", 2)]) (g := gName 2) (tt := tYes) rfl sc_filled.nd (pi_tup (pv 0)) (blkOk_by (N := ["words", "width", "word"]) (sc := defScope s_filled) (by decide +kernel)) (fun _ _ _ _ _ => (pg_name (i := 2) sc_filled.nd rfl (Or.inl rfl))) (fun _ _ _ _ _ => pts_nil) (fun _ _ _ _ _ => (pe_m1 PySem.F.slot_str_ljust PySem.F.type_str_ljust mt_ljust (pv 2) (pv 1))))))), ?_⟩
    refine ⟨⟨_, rfl⟩, _, rfl, l, rfl, ⟨_, h1⟩, fun D hD => lc_it walk_tup (PvS H D fun i => sv ((ws.map (fun x => Txt.ljust x W)).take i)) (pv0 hD rfl) (fun i H2 _ q => q.1.tup h1) ?_ ?_⟩
    · rintro i x H3 H4 hi q ⟨rfl, hx⟩
      obtain ⟨z, hz, rfl⟩ := sv_get hx
      refine ⟨rfl, _, rfl, ⟨_, rfl⟩, _, rfl, z, W, rfl, rfl, pad_ok hw.w0 hw.w1, q.push hD ?_ ?_⟩
      · show sv ((ws.map (fun x => Txt.ljust x W)).take (i + 1)) = _
        rw [take_succ (x := Txt.ljust z W) (by rw [List.getElem?_map, hz]; rfl)]
        exact List.map_append
      · show (sv ((ws.map (fun x => Txt.ljust x W)).take i)).length ≤ 1000000
        rw [len_sv, List.length_take]
        rw [len_sv] at hi
        have := hw.n
        omega
    · rintro H3 ⟨sm, h3⟩
      have h3 : H3 D = some (.lst (sv ((ws.map (fun x => Txt.ljust x W)).take (sv ws).length))) := h3
      rw [List.take_of_length_le (by rw [List.length_map, len_sv]; exact Nat.le_refl _)] at h3
      exact ⟨_, D, _, rfl, rfl, .inl (SqL.of h3), hw.fit.1, k H3 sm⟩
/-- the widest of the words -/
def IsW (ns : List Str) (W : Int) : Prop := (ns = [] ∧ W = 0) ∨ ((∃ x ∈ ns, (x.length : Int) = W) ∧ ∀ x ∈ ns, (x.length : Int) ≤ W)
/-- an order of the columns cs -/
structure Ord (cs ns : List Str) : Prop where
  sub : ∀ x ∈ ns, x ∈ cs
  nd : ns.Nodup
  le : cs.length ≤ ns.length
  n : ns.length ≤ 12
  good : ∀ z ∈ cs, Good z
theorem Ord.wd {cs ns : List Str} {W : Int} (o : Ord cs ns) (h : IsW ns W) : Wd ns W := by
  refine ⟨o.n, fun x hx => (o.good x (o.sub x hx)).le, ?_, ?_⟩
  · rcases h with ⟨_, e⟩ | ⟨⟨x, _, e⟩, _⟩ <;> omega
  · rcases h with ⟨_, e⟩ | ⟨⟨x, hx, e⟩, _⟩
    · omega
    · have := (o.good x (o.sub x hx)).le
      omega
theorem marks_wd {ns r : List Str} {W : Int} (h : Wd ns W) : Wd (marks ns r) W := by
  refine ⟨by unfold marks; rw [List.length_map]; exact h.n, fun x hx => ?_, h.w0, h.w1⟩
  unfold marks at hx
  obtain ⟨y, _, rfl⟩ := List.mem_map.mp hx
  split <;> decide
theorem line_canon {cs ns r : List Str} {W : Int} (o : Ord cs ns) : line ns W (canon cs r) = line ns W r := by
  have e : ∀ x ∈ ns, (x ∈ canon cs r ↔ x ∈ r) := fun x hx => by
    unfold canon
    rw [List.mem_filter, decide_eq_true_iff]
    exact ⟨fun h => h.2, fun h => ⟨o.sub x hx, h⟩⟩
  have e1 : marks ns (canon cs r) = marks ns r := by
    unfold marks
    exact List.map_congr_left fun x hx => by simp only [e x hx]
  have e2 : flags ns (canon cs r) = flags ns r := by
    unfold flags
    exact List.map_congr_left fun x hx => by simp only [e x hx]
  unfold line
  rw [e1, e2]
theorem line_len {ns r : List Str} {W : Int} (h : Wd ns W) : (line ns W r).length ≤ 300 := by
  unfold line
  have h1 := (marks_wd (r := r) h).fit.2
  have h2 : runs (flags ns r) ≤ 12 := by
    have := runs_le (flags ns r)
    unfold flags at this
    rw [List.length_map] at this
    have := h.n
    unfold flags
    omega
  rw [Str.length_append, num4_len h2]
  omega
def spGrid (C : Addr) (sq : Hp → Addr → List V → Prop) : Sp := fun vs H Q _ => ∃ p l cs rs ns W, vs = [.ref p, .ref l] ∧ Tb C H p cs rs ∧ sq H l (sv ns) ∧ Ord cs ns ∧ rs.length ≤ 48 ∧ IsW ns W ∧ ∀ H', Same H H' → Q (.str (pic ns rs W)) H'
theorem ok_grid (T : Txt P K mg A) : FnOk P w K mg base CX0 4 A.a_grid A.d_grid ["table", "order"] (spGrid A.C_Table (SqL K)) := by
  have G_check_order := ok_check (P := P) (w := w) (base := base) T
  have G_filled := ok_filled (P := P) (w := w) (base := base) T
  have G_filledT := ok_filledT (P := P) (w := w) (base := base) T
  have G_runs_of := ok_runs (P := P) (w := w) (base := base) T
  refine T.F_grid.ok sc_grid (fun vs H Q E h => ?_) (fun cdv A' outer s H vs Q E hr h => ?_)
  · obtain ⟨p, l, cs, rs, ns, W, rfl, _⟩ := h
    rfl
  · obtain ⟨p, l, cs, rs, ns, W, rfl, ht, h2, ho, hrs, hW, k⟩ := h
    refine ⟨_, (pss_cons (ps_expr (pe_call G_check_order (hr.mono (by decide)) rfl T.mg_check_order T.F_check_order.kp T.b_check_order .nil pass0 (pa_cons (pv 0) (pa_cons (pv 1) pa_nil))))
      (pss_cons (ps_set (i := 2) sc_grid.nd rfl (Or.inl rfl) (pe_callBK (call_maxDf rfl (hu10 hr)) (by rfl) T.n_max (by decide +kernel) (pa_cons (pe_lc (own := [("name", 7)]) (g := gName 7) (tt := tYes) rfl sc_grid.nd (pi_list (pv 1)) (blkOk_by (N := ["table", "order", "width", "lines", "row", "signs", "runs", "name"]) (sc := defScope s_grid) (by decide +kernel)) (fun _ _ _ _ _ => (pg_name (i := 7) sc_grid.nd rfl (Or.inl rfl))) (fun _ _ _ _ _ => pts_nil) (fun _ _ _ _ _ => (pe_callB call_len_str (by rfl) T.n_len (by decide +kernel) (pa_cons (pv 7) pa_nil)))) pa_nil) (pk_cons pe_int pk_nil)))
      (pss_cons (ps_set (i := 3) sc_grid.nd rfl (Or.inl rfl) (pe_lst (pa_cons (pe_call G_filled (hr.mono (by decide)) rfl T.mg_filled T.F_filled.kp T.b_filled .nil pass0 (pa_cons (pv 1) (pa_cons (pv 2) pa_nil))) pa_nil)))
      (pss_cons (ps_for PassesOwn.never rfl (pi_tup (pe_fld (pv 0) rfl)) (pg_name (i := 4) sc_grid.nd rfl (Or.inr rfl))
        (pss_cons (ps_setLc (i := 5) (own := [("name", 7)]) (g := gName 7) (tt := tYes) rfl sc_grid.nd rfl rfl (sw_true rfl rfl rfl (by decide +kernel)) (pi_list (pv 1)) (blkOk_by (N := ["table", "order", "width", "lines", "row", "signs", "runs", "name"]) (sc := defScope s_grid) (by decide +kernel)) (fun _ _ _ _ _ => (pg_name (i := 7) sc_grid.nd rfl (Or.inl rfl))) (fun _ _ _ _ _ => pts_nil) (fun _ _ _ _ _ => (pe_ifExp (pt_cmpR (show OpR _ _ (rIn K false) from op_in_seq) (pv 7) (pv 4) (by with_unfolding_all rfl)) pe_str pe_str)))
      (pss_cons (ps_set (i := 6) sc_grid.nd rfl (Or.inl rfl) (pe_m1 PySem.F.slot_str_rjust PySem.F.type_str_rjust mt_rjust (pe_callTy call_str_int (by rfl) T.n_str (by decide +kernel) (pa_cons (pe_call G_runs_of (hr.mono (by decide)) rfl T.mg_runs_of T.F_runs_of.kp T.b_runs_of .nil pass0 (pa_cons (pv 4) (pa_cons (pv 1) pa_nil))) pa_nil)) pe_int))
      (pss_one (ps_expr (pe_bm PySem.F.plainAttrs_list PySem.F.slot_list_append PySem.F.type_list_append mt_append (pv 3) (pa_cons (pe_op op_add_str (pe_call G_filled (hr.mono (by decide)) rfl T.mg_filled T.F_filled.kp T.b_filled .nil pass0 (pa_cons (pv 5) (pa_cons (pv 2) pa_nil))) (pv 6)) pa_nil)))))))
      (pss_one (ps_ret (pe_join pe_str (pv 3)))))))), ?_⟩
    have hwd := ho.wd hW
    have hn := ho.n
    refine ⟨_, rfl, _, rfl, p, l, cs, rs, ns, rfl, ht, h2, by omega, fault_none ho.sub ho.nd ho.le, fun H1 s1 => ?_⟩
    have h2 := s1.seq h2
    have ht := ht.same s1
    refine ⟨_, rfl, l, rfl, ⟨_, h2⟩, fun D hD => lc_it walk_list (PvS H1 D fun i => (ns.take i).map fun x => V.int (x.length : Nat)) (pv0 hD rfl) (fun i H2 _ q => q.1.seq h2) ?_ ?_⟩
    · rintro i x H3 H4 hi q ⟨rfl, hx⟩
      obtain ⟨z, hz, rfl⟩ := sv_get hx
      have hzl := (ho.good z (ho.sub z (List.mem_of_getElem? hz))).le
      refine ⟨rfl, _, rfl, z, rfl, Nat.le_trans hzl (by decide), q.push hD ?_ ?_⟩
      · show ((ns.take (i + 1)).map fun x => V.int (x.length : Nat)) = _
        rw [take_succ hz, List.map_append]; rfl
      · show ((ns.take i).map fun x => V.int (x.length : Nat)).length ≤ 1000000
        rw [List.length_map, List.length_take]; omega
    rintro H3 ⟨s3, h3⟩
    have h3 : H3 D = some (.lst ((ns.take (sv ns).length).map fun x => V.int (x.length : Nat))) := h3
    rw [len_sv, List.take_length] at h3
    dsimp only [tCons, tNil, tC]
    refine rMaxDf_mk (ns := ns.map fun x => ((x.length : Nat) : Int)) (W := W) (SqL.of (by rw [List.map_map]; exact h3)) (fun e => ?_) (fun m hm hb => ?_) ?_
    · rcases hW with ⟨_, e2⟩ | ⟨⟨x, hx, _⟩, _⟩
      · exact e2.symm
      · rw [List.map_eq_nil_iff.mp e] at hx; cases hx
    · obtain ⟨x, hx, rfl⟩ := List.mem_map.mp hm
      rcases hW with ⟨e2, _⟩ | ⟨⟨y, hy, rfl⟩, hall⟩
      · rw [e2] at hx; cases hx
      · exact Int.le_antisymm (hall x hx) (hb _ (List.mem_map.mpr ⟨y, hy, rfl⟩))
    have h2 := s3.seq h2
    have ht := ht.same s3
    refine ⟨_, rfl, _, rfl, l, ns, W, rfl, h2, hwd, fun H4 s4 => ⟨by show 1 ≤ sizeLine; decide, fun L hL => ?_⟩⟩
    have h2 := s4.seq h2
    have ht := ht.same s4
    have s14 := (s1.trans s3).trans s4
    obtain ⟨dx, ct, rt, ts, hp, hc, hr3, hts⟩ := ht
    have s5 := same_new (o := .lst [V.str (fill ns W)]) hL
    refine ⟨_, rfl, p, _, dx, _, _, rfl, s5 _ _ hp, T.cl_Table, T.n_Table_rows, fldsT_rows _ _, rt, rfl, ⟨_, SqT.of (s5 _ _ hr3)⟩,
      for_it walk_tup (fun i σ H6 => Same H4 H6 ∧ H6 L = some (.lst (sv (fill ns W :: (rs.take i).map fun r => line ns W (canon cs r)))) ∧ ∃ u4 u5 u6 u7 : Option V, σ = [some (.ref p), some (.ref l), some (.int W), some (.ref L), u4, u5, u6, u7])
      ⟨s5, upd_same, none, none, none, none, rfl⟩ (fun i σ H6 _ q => q.1.tup (SqT.of hr3)) ?_ ?_⟩
    · rintro i x σ H60 H6 hi ⟨s6, hL6, u4, u5, u6, u7, rfl⟩ ⟨rfl, hx⟩
      obtain ⟨t, hti, rfl⟩ := refs_get hx
      obtain ⟨rr, hrr, hto⟩ := (hts.same s6).get hti
      rw [List.getElem?_map] at hrr
      cases hri : rs[i]? with
      | none => rw [hri] at hrr; cases hrr
      | some r =>
      rw [hri] at hrr
      cases hrr
      have hil : i < 48 := by
        have := (List.getElem?_eq_some_iff.mp hri).1
        omega
      refine ⟨_, rfl, l, rfl, ⟨_, s6.seq h2⟩, fun D2 hD2 => lc_it walk_list (PvS H6 D2 fun k => sv ((marks ns (canon cs r)).take k)) (pv0 hD2 rfl) (fun k H2 _ q => q.1.seq (s6.seq h2)) ?_ ?_⟩
      · rintro j x H8 H9 hj q ⟨rfl, hx⟩
        obtain ⟨z, hz, rfl⟩ := sv_get hx
        refine ⟨rfl, _, rfl, _, rfl, t, _, rfl, .inr (SqT.of (q.1 _ _ hto)), rfl, flat_sv _, _, rfl, ?_⟩
        rw [if_neg Bool.false_ne_true, inV_str]
        have hm : (marks ns (canon cs r))[j]? = some (if z ∈ canon cs r then ("x" : Str) else ".") := by unfold marks; rw [List.getElem?_map, hz]; rfl
        have hlen : (sv ((marks ns (canon cs r)).take j)).length ≤ 1000000 := by
          rw [len_sv, List.length_take]
          rw [len_sv] at hj
          omega
        by_cases hzc : z ∈ canon cs r
        · refine ifT (decide_eq_true hzc) (q.push hD2 ?_ hlen)
          rw [if_pos hzc] at hm
          show sv ((marks ns (canon cs r)).take (j + 1)) = _
          rw [take_succ hm]; exact List.map_append
        · refine ifF (decide_eq_false hzc) (q.push hD2 ?_ hlen)
          rw [if_neg hzc] at hm
          show sv ((marks ns (canon cs r)).take (j + 1)) = _
          rw [take_succ hm]; exact List.map_append
      rintro H8 ⟨s8, h8⟩
      have h8 : H8 D2 = some (.lst (sv ((marks ns (canon cs r)).take (sv ns).length))) := h8
      rw [List.take_of_length_le (by unfold marks; rw [List.length_map, len_sv]; exact Nat.le_refl _)] at h8
      have s68 := s6.trans s8
      refine ⟨_, rfl, _, rfl, t, l, canon cs r, ns, rfl, SqT.of (s8 _ _ hto), s68.seq h2, by omega, fun H9 s9 => ?_⟩
      have hrun : runs (flags ns (canon cs r)) ≤ 12 := by
        have := runs_le (flags ns (canon cs r))
        have e : (flags ns (canon cs r)).length = ns.length := List.length_map ..
        omega
      refine ⟨_, rfl, small_log (by rw [Int.natAbs_natCast]; omega), ⟨_, rfl⟩, _, _, rfl, rfl, pad_ok (by decide) (by decide), ?_⟩
      have h8 := s9 _ _ h8
      have hL9 := s9 _ _ (s8 _ _ hL6)
      refine ⟨_, rfl, .inl ⟨rfl, _, SqL.of hL9⟩, _, rfl, _, rfl, D2, marks ns (canon cs r), W, rfl, SqL.of h8, marks_wd hwd, fun H10 s10 => ⟨_, rfl, _, _, rfl, rfl, ?_, ?_⟩⟩
      · have z : (line ns W (canon cs r)).length ≤ 300 := line_len hwd
        unfold line at z
        rw [Str.length_append] at z
        exact Nat.le_trans z (by decide)
      · refine ⟨L, _, _, rfl, rfl, s10 _ _ hL9, small_int (by rw [len_sv, List.length_cons, List.length_map, List.length_take]; omega), ?_, ?_, _, _, _, _, rfl⟩
        · intro b o e
          rw [upd_ne (ne_of_none e hL)]
          exact (s68.trans (s9.trans s10)) b o e
        · rw [upd_same, take_succ hri, List.map_append, ← List.cons_append]
          exact congrArg (fun z => some (HO.lst z)) (sv_snoc _ (line ns W (canon cs r))).symm
    · rintro σ H6 ⟨s6, hL6, u4, u5, u6, u7, rfl⟩
      have e : (rs.take (ts.map V.ref).length).map (fun r => line ns W (canon cs r)) = rs.map (line ns W) := by
        rw [List.length_map, hts.len, List.length_map, List.take_length]
        exact List.map_congr_left fun r _ => line_canon ho
      rw [e] at hL6
      have fit := fits_join (a := ("\n" : Str)) (ys := fill ns W :: rs.map (line ns W)) (B := 300) (n := 49) (fun y hy => ?_) (by rw [List.length_cons, List.length_map]; omega) (by rw [ls_nl]; decide)
      · exact ⟨⟨_, rfl⟩, _, rfl, _, L, _, rfl, rfl, .inl (SqL.of hL6), fit.1, k H6 (s14.trans s6)⟩
      · rcases List.mem_cons.mp hy with rfl | hy
        · have := hwd.fit.2; omega
        · obtain ⟨r, _, rfl⟩ := List.mem_map.mp hy
          exact line_len hwd
theorem ok_gridT (T : Txt P K mg A) : FnOk P w K mg base CX0 4 A.a_grid A.d_grid ["table", "order"] (spGrid A.C_Table (SqT K)) := by
  have G_check_orderT := ok_checkT (P := P) (w := w) (base := base) T
  have G_filled := ok_filled (P := P) (w := w) (base := base) T
  have G_filledT := ok_filledT (P := P) (w := w) (base := base) T
  have G_runs_ofT := ok_runsT (P := P) (w := w) (base := base) T
  refine T.F_grid.ok sc_grid (fun vs H Q E h => ?_) (fun cdv A' outer s H vs Q E hr h => ?_)
  · obtain ⟨p, l, cs, rs, ns, W, rfl, _⟩ := h
    rfl
  · obtain ⟨p, l, cs, rs, ns, W, rfl, ht, h2, ho, hrs, hW, k⟩ := h
    refine ⟨_, (pss_cons (ps_expr (pe_call G_check_orderT (hr.mono (by decide)) rfl T.mg_check_order T.F_check_order.kp T.b_check_order .nil pass0 (pa_cons (pv 0) (pa_cons (pv 1) pa_nil))))
      (pss_cons (ps_set (i := 2) sc_grid.nd rfl (Or.inl rfl) (pe_callBK (call_maxDf rfl (hu10 hr)) (by rfl) T.n_max (by decide +kernel) (pa_cons (pe_lc (own := [("name", 7)]) (g := gName 7) (tt := tYes) rfl sc_grid.nd (pi_tup (pv 1)) (blkOk_by (N := ["table", "order", "width", "lines", "row", "signs", "runs", "name"]) (sc := defScope s_grid) (by decide +kernel)) (fun _ _ _ _ _ => (pg_name (i := 7) sc_grid.nd rfl (Or.inl rfl))) (fun _ _ _ _ _ => pts_nil) (fun _ _ _ _ _ => (pe_callB call_len_str (by rfl) T.n_len (by decide +kernel) (pa_cons (pv 7) pa_nil)))) pa_nil) (pk_cons pe_int pk_nil)))
      (pss_cons (ps_set (i := 3) sc_grid.nd rfl (Or.inl rfl) (pe_lst (pa_cons (pe_call G_filledT (hr.mono (by decide)) rfl T.mg_filled T.F_filled.kp T.b_filled .nil pass0 (pa_cons (pv 1) (pa_cons (pv 2) pa_nil))) pa_nil)))
      (pss_cons (ps_for PassesOwn.never rfl (pi_tup (pe_fld (pv 0) rfl)) (pg_name (i := 4) sc_grid.nd rfl (Or.inr rfl))
        (pss_cons (ps_setLc (i := 5) (own := [("name", 7)]) (g := gName 7) (tt := tYes) rfl sc_grid.nd rfl rfl (sw_true rfl rfl rfl (by decide +kernel)) (pi_tup (pv 1)) (blkOk_by (N := ["table", "order", "width", "lines", "row", "signs", "runs", "name"]) (sc := defScope s_grid) (by decide +kernel)) (fun _ _ _ _ _ => (pg_name (i := 7) sc_grid.nd rfl (Or.inl rfl))) (fun _ _ _ _ _ => pts_nil) (fun _ _ _ _ _ => (pe_ifExp (pt_cmpR (show OpR _ _ (rIn K false) from op_in_seq) (pv 7) (pv 4) (by with_unfolding_all rfl)) pe_str pe_str)))
      (pss_cons (ps_set (i := 6) sc_grid.nd rfl (Or.inl rfl) (pe_m1 PySem.F.slot_str_rjust PySem.F.type_str_rjust mt_rjust (pe_callTy call_str_int (by rfl) T.n_str (by decide +kernel) (pa_cons (pe_call G_runs_ofT (hr.mono (by decide)) rfl T.mg_runs_of T.F_runs_of.kp T.b_runs_of .nil pass0 (pa_cons (pv 4) (pa_cons (pv 1) pa_nil))) pa_nil)) pe_int))
      (pss_one (ps_expr (pe_bm PySem.F.plainAttrs_list PySem.F.slot_list_append PySem.F.type_list_append mt_append (pv 3) (pa_cons (pe_op op_add_str (pe_call G_filled (hr.mono (by decide)) rfl T.mg_filled T.F_filled.kp T.b_filled .nil pass0 (pa_cons (pv 5) (pa_cons (pv 2) pa_nil))) (pv 6)) pa_nil)))))))
      (pss_one (ps_ret (pe_join pe_str (pv 3)))))))), ?_⟩
    have hwd := ho.wd hW
    have hn := ho.n
    refine ⟨_, rfl, _, rfl, p, l, cs, rs, ns, rfl, ht, h2, by omega, fault_none ho.sub ho.nd ho.le, fun H1 s1 => ?_⟩
    have h2 := s1.tup h2
    have ht := ht.same s1
    refine ⟨_, rfl, l, rfl, ⟨_, h2⟩, fun D hD => lc_it walk_tup (PvS H1 D fun i => (ns.take i).map fun x => V.int (x.length : Nat)) (pv0 hD rfl) (fun i H2 _ q => q.1.tup h2) ?_ ?_⟩
    · rintro i x H3 H4 hi q ⟨rfl, hx⟩
      obtain ⟨z, hz, rfl⟩ := sv_get hx
      have hzl := (ho.good z (ho.sub z (List.mem_of_getElem? hz))).le
      refine ⟨rfl, _, rfl, z, rfl, Nat.le_trans hzl (by decide), q.push hD ?_ ?_⟩
      · show ((ns.take (i + 1)).map fun x => V.int (x.length : Nat)) = _
        rw [take_succ hz, List.map_append]; rfl
      · show ((ns.take i).map fun x => V.int (x.length : Nat)).length ≤ 1000000
        rw [List.length_map, List.length_take]; omega
    rintro H3 ⟨s3, h3⟩
    have h3 : H3 D = some (.lst ((ns.take (sv ns).length).map fun x => V.int (x.length : Nat))) := h3
    rw [len_sv, List.take_length] at h3
    dsimp only [tCons, tNil, tC]
    refine rMaxDf_mk (ns := ns.map fun x => ((x.length : Nat) : Int)) (W := W) (SqL.of (by rw [List.map_map]; exact h3)) (fun e => ?_) (fun m hm hb => ?_) ?_
    · rcases hW with ⟨_, e2⟩ | ⟨⟨x, hx, _⟩, _⟩
      · exact e2.symm
      · rw [List.map_eq_nil_iff.mp e] at hx; cases hx
    · obtain ⟨x, hx, rfl⟩ := List.mem_map.mp hm
      rcases hW with ⟨e2, _⟩ | ⟨⟨y, hy, rfl⟩, hall⟩
      · rw [e2] at hx; cases hx
      · exact Int.le_antisymm (hall x hx) (hb _ (List.mem_map.mpr ⟨y, hy, rfl⟩))
    have h2 := s3.tup h2
    have ht := ht.same s3
    refine ⟨_, rfl, _, rfl, l, ns, W, rfl, h2, hwd, fun H4 s4 => ⟨by show 1 ≤ sizeLine; decide, fun L hL => ?_⟩⟩
    have h2 := s4.tup h2
    have ht := ht.same s4
    have s14 := (s1.trans s3).trans s4
    obtain ⟨dx, ct, rt, ts, hp, hc, hr3, hts⟩ := ht
    have s5 := same_new (o := .lst [V.str (fill ns W)]) hL
    refine ⟨_, rfl, p, _, dx, _, _, rfl, s5 _ _ hp, T.cl_Table, T.n_Table_rows, fldsT_rows _ _, rt, rfl, ⟨_, SqT.of (s5 _ _ hr3)⟩,
      for_it walk_tup (fun i σ H6 => Same H4 H6 ∧ H6 L = some (.lst (sv (fill ns W :: (rs.take i).map fun r => line ns W (canon cs r)))) ∧ ∃ u4 u5 u6 u7 : Option V, σ = [some (.ref p), some (.ref l), some (.int W), some (.ref L), u4, u5, u6, u7])
      ⟨s5, upd_same, none, none, none, none, rfl⟩ (fun i σ H6 _ q => q.1.tup (SqT.of hr3)) ?_ ?_⟩
    · rintro i x σ H60 H6 hi ⟨s6, hL6, u4, u5, u6, u7, rfl⟩ ⟨rfl, hx⟩
      obtain ⟨t, hti, rfl⟩ := refs_get hx
      obtain ⟨rr, hrr, hto⟩ := (hts.same s6).get hti
      rw [List.getElem?_map] at hrr
      cases hri : rs[i]? with
      | none => rw [hri] at hrr; cases hrr
      | some r =>
      rw [hri] at hrr
      cases hrr
      have hil : i < 48 := by
        have := (List.getElem?_eq_some_iff.mp hri).1
        omega
      refine ⟨_, rfl, l, rfl, ⟨_, s6.tup h2⟩, fun D2 hD2 => lc_it walk_tup (PvS H6 D2 fun k => sv ((marks ns (canon cs r)).take k)) (pv0 hD2 rfl) (fun k H2 _ q => q.1.tup (s6.tup h2)) ?_ ?_⟩
      · rintro j x H8 H9 hj q ⟨rfl, hx⟩
        obtain ⟨z, hz, rfl⟩ := sv_get hx
        refine ⟨rfl, _, rfl, _, rfl, t, _, rfl, .inr (SqT.of (q.1 _ _ hto)), rfl, flat_sv _, _, rfl, ?_⟩
        rw [if_neg Bool.false_ne_true, inV_str]
        have hm : (marks ns (canon cs r))[j]? = some (if z ∈ canon cs r then ("x" : Str) else ".") := by unfold marks; rw [List.getElem?_map, hz]; rfl
        have hlen : (sv ((marks ns (canon cs r)).take j)).length ≤ 1000000 := by
          rw [len_sv, List.length_take]
          rw [len_sv] at hj
          omega
        by_cases hzc : z ∈ canon cs r
        · refine ifT (decide_eq_true hzc) (q.push hD2 ?_ hlen)
          rw [if_pos hzc] at hm
          show sv ((marks ns (canon cs r)).take (j + 1)) = _
          rw [take_succ hm]; exact List.map_append
        · refine ifF (decide_eq_false hzc) (q.push hD2 ?_ hlen)
          rw [if_neg hzc] at hm
          show sv ((marks ns (canon cs r)).take (j + 1)) = _
          rw [take_succ hm]; exact List.map_append
      rintro H8 ⟨s8, h8⟩
      have h8 : H8 D2 = some (.lst (sv ((marks ns (canon cs r)).take (sv ns).length))) := h8
      rw [List.take_of_length_le (by unfold marks; rw [List.length_map, len_sv]; exact Nat.le_refl _)] at h8
      have s68 := s6.trans s8
      refine ⟨_, rfl, _, rfl, t, l, canon cs r, ns, rfl, SqT.of (s8 _ _ hto), s68.tup h2, by omega, fun H9 s9 => ?_⟩
      have hrun : runs (flags ns (canon cs r)) ≤ 12 := by
        have := runs_le (flags ns (canon cs r))
        have e : (flags ns (canon cs r)).length = ns.length := List.length_map ..
        omega
      refine ⟨_, rfl, small_log (by rw [Int.natAbs_natCast]; omega), ⟨_, rfl⟩, _, _, rfl, rfl, pad_ok (by decide) (by decide), ?_⟩
      have h8 := s9 _ _ h8
      have hL9 := s9 _ _ (s8 _ _ hL6)
      refine ⟨_, rfl, .inl ⟨rfl, _, SqL.of hL9⟩, _, rfl, _, rfl, D2, marks ns (canon cs r), W, rfl, SqL.of h8, marks_wd hwd, fun H10 s10 => ⟨_, rfl, _, _, rfl, rfl, ?_, ?_⟩⟩
      · have z : (line ns W (canon cs r)).length ≤ 300 := line_len hwd
        unfold line at z
        rw [Str.length_append] at z
        exact Nat.le_trans z (by decide)
      · refine ⟨L, _, _, rfl, rfl, s10 _ _ hL9, small_int (by rw [len_sv, List.length_cons, List.length_map, List.length_take]; omega), ?_, ?_, _, _, _, _, rfl⟩
        · intro b o e
          rw [upd_ne (ne_of_none e hL)]
          exact (s68.trans (s9.trans s10)) b o e
        · rw [upd_same, take_succ hri, List.map_append, ← List.cons_append]
          exact congrArg (fun z => some (HO.lst z)) (sv_snoc _ (line ns W (canon cs r))).symm
    · rintro σ H6 ⟨s6, hL6, u4, u5, u6, u7, rfl⟩
      have e : (rs.take (ts.map V.ref).length).map (fun r => line ns W (canon cs r)) = rs.map (line ns W) := by
        rw [List.length_map, hts.len, List.length_map, List.take_length]
        exact List.map_congr_left fun r _ => line_canon ho
      rw [e] at hL6
      have fit := fits_join (a := ("\n" : Str)) (ys := fill ns W :: rs.map (line ns W)) (B := 300) (n := 49) (fun y hy => ?_) (by rw [List.length_cons, List.length_map]; omega) (by rw [ls_nl]; decide)
      · exact ⟨⟨_, rfl⟩, _, rfl, _, L, _, rfl, rfl, .inl (SqL.of hL6), fit.1, k H6 (s14.trans s6)⟩
      · rcases List.mem_cons.mp hy with rfl | hy
        · have := hwd.fit.2; omega
        · obtain ⟨r, _, rfl⟩ := List.mem_map.mp hy
          exact line_len hwd
/-- a list that is no order is refused -/
def spGridX (K : PySem.W.Frag) (C B : Addr) : Sp := fun vs H Q E => ∃ p l cs rs ns i, vs = [.ref p, .ref l] ∧ Tb C H p cs rs ∧ SqL K H l (sv ns) ∧ ns.length ≤ 1000 ∧ fault cs ns = some i ∧
  ∀ d H', Same H H' → H' d = some (.xd [("index", .int (i : Nat))]) → E (.ref B) (some d) H'
theorem ok_gridX (T : Txt P K mg A) : FnOk P w K mg base (L2.CX P w) 4 A.a_grid A.d_grid ["table", "order"] (spGridX K A.C_Table A.C_BadOrder) := by
  have GX_check_order := ok_checkX (P := P) (w := w) (base := base) T
  refine funX T.F_grid sc_grid (fun vs H Q E h => ?_) (fun cdv A' outer s H vs Q E hr h => ?_)
  · obtain ⟨p, l, cs, rs, ns, i, rfl, _⟩ := h
    rfl
  · obtain ⟨p, l, cs, rs, ns, i, rfl, ht, h2, hl, hf, k⟩ := h
    refine ⟨_, (pss_cons (ps_expr (pe_callS GX_check_order (hr.mono (by decide)) rfl T.mg_check_order T.F_check_order.kp T.b_check_order (fun σ => passAt (takes_of rfl rfl rfl rfl) σ) (pa_cons (pv 0) (pa_cons (pv 1) pa_nil))))
      (pss_cons ps_never (pss_cons ps_never (pss_cons ps_never (pss_one ps_never))))), ?_⟩
    refine ⟨_, rfl, _, rfl, p, l, cs, rs, ns, i, rfl, ht, h2, hl, hf, fun d H' sm hd => ?_⟩
    exact k d H' sm hd
end
end My
set_option maxRecDepth 100000
set_option maxHeartbeats 4000000
set_option exponentiation.threshold 10000
namespace My
open PySem L2
theorem mulW {i j : Int} (hi : i.natAbs < 2 ^ 9000) (hj : j.natAbs < 2 ^ 9000) : CMulW i j := wide_mul hi hj (by decide) (by decide) (by decide)
theorem atI_ok {xs : List Int} {j : Int} (h0 : 0 ≤ j) (h1 : j < xs.length) : ∃ v, v ∈ xs ∧ atI (xs.map V.int) j = some (V.int v) := by
  have hj : j.toNat < xs.length := by omega
  refine ⟨xs[j.toNat], List.getElem_mem hj, ?_⟩
  have e : (xs.map V.int)[j.toNat]? = some (V.int xs[j.toNat]) := by rw [List.getElem?_map, List.getElem?_eq_getElem hj]; rfl
  have := atI_nat e
  rw [show ((j.toNat : Nat) : Int) = j by omega] at this
  exact this
theorem len_map_int (xs : List Int) : (xs.map V.int).length = xs.length := List.length_map ..
/-- a pool of draws -/
def Pool (ns : List Int) : Prop := ∀ x ∈ ns, 0 ≤ x ∧ x < 27720
theorem Pool.nil : Pool [] := fun x h => nomatch h
theorem Pool.app {ns : List Int} {x : Int} (h : Pool ns) (h0 : 0 ≤ x) (h1 : x < 27720) : Pool (ns ++ [x]) := fun y hy => by
  rcases List.mem_append.mp hy with hy | hy
  · exact h y hy
  · cases List.mem_singleton.mp hy; exact ⟨h0, h1⟩
theorem upd_app {H : Hp} {l : Addr} {ps : List Int} {x : Int} : upd (upd H l (.lst (ps.map V.int))) l (.lst (ps.map V.int ++ [V.int x])) = upd H l (.lst ((ps ++ [x]).map V.int)) := by
  rw [upd_upd, List.map_append]
  rfl
theorem mod_sz {x m : Int} {k : Nat} (h : 0 < m) (hk : m.natAbs < 2 ^ k) : (x % m).natAbs < 2 ^ k := by
  have h1 := Int.emod_nonneg x (Int.ne_of_gt h)
  have h2 := Int.emod_lt_of_pos x h
  omega
def spCell (K : PySem.W.Frag) : Sp := fun vs H Q _ => ∃ (a : Addr) (ns : List Int) (k : Int), vs = [.ref a, .int k] ∧ SqL K H a (ns.map V.int) ∧ 0 ≤ k ∧ ∀ z, Q (.int z) H
def spPool (K : PySem.W.Frag) : Sp := fun vs H Q _ => ∃ (a : Addr) (ns : List Int) (k c : Int), vs = [.ref a, .int k, .int c] ∧ SqL K H a (ns.map V.int) ∧ 0 ≤ k ∧ 0 ≤ c ∧ c ≤ 1000 ∧
  ∀ p ps H', Same H H' → H' p = some (.lst (ps.map V.int)) → (ps.length : Int) = c → Pool ps → Q (.ref p) H'
section
variable {P : Program} {w : World} {K : PySem.W.Frag} {mg : Str → Option Value} {base : Heap} {A : Ad}
theorem ok_cell (T : Txt P K mg A) : FnOk P w K mg base CX0 1 A.a_law_cell A.d_law_cell ["script", "k"] (spCell K) := by
  refine T.F_law_cell.ok sc_law_cell (fun vs H Q E h => ?_) (fun cdv A' outer s H vs Q E hr h => ?_)
  · obtain ⟨a, ns, k, rfl, _⟩ := h
    rfl
  · obtain ⟨a, ns, i, rfl, hS, h0, k⟩ := h
    refine ⟨_, (pss_cons (ps_if (pt_cmpR op_lt (pv 1) (pe_callB call_len_seq (by rfl) T.n_len (by decide +kernel) (pa_cons (pv 0) pa_nil)) (nomark _)) (pss_one (ps_ret (pe_ix ix_list (pv 0) (pv 1) (fun _ _ => rfl)))) pss_nil)
      (pss_one (ps_ret pe_int))), ?_⟩
    refine ⟨_, rfl, _, rfl, _, _, rfl, .inl hS, _, _, rfl, rfl, _, rfl, ?_⟩
    by_cases hi : i < ((ns.map V.int).length : Int)
    · refine itY hi ?_
      obtain ⟨v, hv, e⟩ := atI_ok (xs := ns) h0 (by rw [len_map_int] at hi; exact hi)
      exact ⟨_, rfl, _, rfl, _, _, _, _, rfl, rfl, hS, e, k v⟩
    · refine itN hi ?_
      exact k 0
theorem ok_pool (T : Txt P K mg A) : FnOk P w K mg base CX0 2 A.a_law_pool A.d_law_pool ["script", "k", "count"] (spPool K) := by
  have G_law_cell : FnOk P w K mg base CX0 1 A.a_law_cell A.d_law_cell ["script", "k"] (spCell K) := ok_cell T
  refine T.F_law_pool.ok sc_law_pool (fun vs H Q E h => ?_) (fun cdv A' outer s H vs Q E hr h => ?_)
  · obtain ⟨a, ns, k, c, rfl, _⟩ := h
    rfl
  · obtain ⟨a, ns, i, c, rfl, hS, h0, hc0, hc, k⟩ := h
    refine ⟨_, (pss_cons (ps_set (i := 3) sc_law_pool.nd rfl (Or.inl rfl) (pe_callB call_abs (by rfl) T.n_abs (by decide +kernel) (pa_cons (pe_call G_law_cell (hr.mono (by decide)) rfl T.mg_law_cell T.F_law_cell.kp T.b_law_cell .nil pass0 (pa_cons (pv 0) (pa_cons (pv 1) pa_nil))) pa_nil)))
      (pss_cons (ps_set (i := 4) sc_law_pool.nd rfl (Or.inl rfl) (pe_lst pa_nil))
      (pss_cons (ps_if (pt_cmpR op_ge (pv 3) (pe_op op_pow pe_int pe_int) (nomark _)) (pss_cons (ps_set (i := 3) sc_law_pool.nd rfl (Or.inl rfl) (pe_op op_sub (pv 3) (pe_op op_pow pe_int pe_int)))
      (pss_cons (ps_for PassesOwn.never rfl (pi_range1 (by rfl) T.n_range (pa_cons (pv 2) pa_nil)) (pg_name (i := 5) sc_law_pool.nd rfl (Or.inl rfl))
        (pss_cons (ps_expr (pe_bm PySem.F.plainAttrs_list PySem.F.slot_list_append PySem.F.type_list_append mt_append (pv 4) (pa_cons (pe_op op_mod (pe_callTy call_int1 (by rfl) T.n_int (by decide +kernel) (pa_cons (pv 3) pa_nil)) pe_int) pa_nil)))
      (pss_one (ps_set (i := 3) sc_law_pool.nd rfl (Or.inl rfl) (pe_op op_fdiv (pv 3) pe_int)))))
      (pss_one (ps_ret (pv 4))))) pss_nil)
      (pss_cons (ps_for PassesOwn.never rfl (pi_range1 (by rfl) T.n_range (pa_cons (pv 2) pa_nil)) (pg_name (i := 5) sc_law_pool.nd rfl (Or.inl rfl))
        (pss_cons (ps_set (i := 6) sc_law_pool.nd rfl (Or.inl rfl) (pe_op op_mod (pe_callTy call_int1 (by rfl) T.n_int (by decide +kernel) (pa_cons (pe_op op_add (pe_op op_add (pe_op op_add (pe_op op_mul (pv 3) pe_int) (pe_op op_mul (pe_op op_add (pv 5) pe_int) pe_int)) (pe_op op_mul (pv 1) pe_int)) pe_int) pa_nil)) pe_int))
      (pss_cons (ps_set (i := 7) sc_law_pool.nd rfl (Or.inl rfl) (pe_op op_mod (pe_callTy call_int1 (by rfl) T.n_int (by decide +kernel) (pa_cons (pe_op op_add (pe_op op_add (pe_op op_mulW (pv 6) (pv 6)) (pe_op op_mul (pv 3) pe_int)) (pv 5)) pa_nil)) pe_int))
      (pss_cons (ps_set (i := 8) sc_law_pool.nd rfl (Or.inl rfl) (pe_op op_mod (pe_callTy call_int1 (by rfl) T.n_int (by decide +kernel) (pa_cons (pe_op op_add (pe_op op_mulW (pv 7) (pv 7)) (pv 6)) pa_nil)) pe_int))
      (pss_one (ps_expr (pe_bm PySem.F.plainAttrs_list PySem.F.slot_list_append PySem.F.type_list_append mt_append (pv 4) (pa_cons (pe_op op_mod (pe_callTy call_int1 (by rfl) T.n_int (by decide +kernel) (pa_cons (pe_op op_fdiv (pv 8) pe_int) pa_nil)) pe_int) pa_nil))))))))
      (pss_one (ps_ret (pv 4))))))), ?_⟩
    refine ⟨_, rfl, _, rfl, a, ns, i, rfl, hS, h0, fun z => ⟨_, rfl, ?_⟩⟩
    refine ⟨by show 0 ≤ sizeLine; decide, fun l hl => ?_⟩
    refine ⟨_, rfl, _, _, rfl, rfl, ⟨by decide, by decide, by decide⟩, _, _, rfl, rfl, _, rfl, ?_⟩
    have fin : ∀ ps : List Int, ps.length = c.toNat → Pool ps → Q (.ref l) (upd H l (.lst (ps.map V.int))) := fun ps h1 h2 => k l ps _ (same_new hl) upd_same (by omega) h2
    refine ite2 (fun hb => ?_) (fun hb => ?_)
    · refine ⟨_, rfl, _, _, rfl, rfl, ⟨by decide, by decide, by decide⟩, _, _, rfl, rfl, ?_⟩
      refine ⟨_, rfl, c, rfl, by omega, by omega, for_range (n := c.toNat) (fun j σ H2 => ∃ (v : Int) (ps : List Int) (u : Option V), σ = [some (.ref a), some (.int i), some (.int c), some (.int v), some (.ref l), u, none, none, none] ∧
        H2 = upd H l (.lst (ps.map V.int)) ∧ ps.length = j ∧ Pool ps) ⟨_, [], none, rfl, rfl, rfl, Pool.nil⟩ ?_ ?_⟩
      · rintro j σ H2 hj ⟨v, ps, u, rfl, rfl, hl2, hp⟩
        refine ⟨_, rfl, .inl ⟨rfl, _, SqL.of upd_same⟩, _, rfl, .inl ⟨_, rfl, ?_⟩⟩
        refine ⟨_, _, rfl, rfl, by show (0 : Int) < 27720; decide, l, _, _, rfl, rfl, upd_same, small_int (by rw [len_map_int]; omega), ?_⟩
        refine ⟨_, rfl, _, _, rfl, rfl, ⟨by decide, by decide⟩, ?_⟩
        refine ⟨_, ps ++ [v % 27720], _, rfl, ?_, by simp [hl2], hp.app (Int.emod_nonneg _ (by decide)) (Int.emod_lt_of_pos _ (by decide))⟩
        rw [upd_upd, List.map_append]
        rfl
      · rintro σ H2 ⟨v, ps, u, rfl, rfl, hl2, hp⟩
        exact ⟨_, rfl, fin ps hl2 hp⟩
    · refine ⟨_, rfl, c, rfl, by omega, by omega, for_range (n := c.toNat) (fun j σ H2 => ∃ (v : Int) (ps : List Int) (u u1 u2 u3 : Option V), σ = [some (.ref a), some (.int i), some (.int c), some (.int v), some (.ref l), u, u1, u2, u3] ∧
        H2 = upd H l (.lst (ps.map V.int)) ∧ ps.length = j ∧ Pool ps) ⟨_, [], none, none, none, none, rfl, rfl, rfl, Pool.nil⟩ ?_ ?_⟩
      · rintro j σ H2 hj ⟨v, ps, u, u1, u2, u3, rfl, rfl, hl2, hp⟩
        refine ⟨_, rfl, _, _, rfl, rfl, .inr (by decide), _, rfl, _, _, rfl, rfl, _, _, rfl, rfl, .inr (by decide), _, _, rfl, rfl, _, rfl, _, _, rfl, rfl, .inr (by decide), _, _, rfl, rfl, _, _, rfl, rfl, .inl ⟨_, rfl, _, _, rfl, rfl, by show (0 : Int) < 2147483647; decide, ?_⟩⟩
        refine ⟨_, rfl, _, rfl, _, _, rfl, rfl, mulW (mod_sz (by decide) (by decide)) (mod_sz (by decide) (by decide)), _, rfl, _, _, rfl, rfl, .inr (by decide), _, _, rfl, rfl, _, rfl, _, _, rfl, rfl, .inl ⟨_, rfl, _, _, rfl, rfl, by show (0 : Int) < 2147483629; decide, ?_⟩⟩
        refine ⟨_, rfl, _, rfl, _, _, rfl, rfl, mulW (mod_sz (by decide) (by decide)) (mod_sz (by decide) (by decide)), _, rfl, _, _, rfl, rfl, .inl ⟨_, rfl, _, _, rfl, rfl, by show (0 : Int) < 2147483587; decide, ?_⟩⟩
        refine ⟨_, rfl, .inl ⟨rfl, _, SqL.of upd_same⟩, _, rfl, _, _, rfl, rfl, ⟨by decide, by decide⟩, .inl ⟨_, rfl, ?_⟩⟩
        refine ⟨_, _, rfl, rfl, by show (0 : Int) < 27720; decide, l, _, _, rfl, rfl, upd_same, small_int (by rw [len_map_int]; omega), ?_⟩
        exact ⟨_, ps ++ [_], _, _, _, _, rfl, upd_app, by simp [hl2], hp.app (Int.emod_nonneg _ (by decide)) (Int.emod_lt_of_pos _ (by decide))⟩
      · rintro σ H2 ⟨v, ps, u, u1, u2, u3, rfl, rfl, hl2, hp⟩
        exact ⟨_, rfl, fin ps hl2 hp⟩
end
/-! ### drawn names -/
theorem alpha_at : ∀ k : Fin 26, atI (("abcdefghijklmnopqrstuvwxyz" : Str)).cps.toList ((k.val : Nat) : Int) = some (97 + k.val) := by decide +kernel
theorem alpha_ix : ∀ k : Fin 26, Builtin.Str.occurrences ("abcdefghijklmnopqrstuvwxyz" : Str) ⟨#[97 + k.val]⟩ 0 (("abcdefghijklmnopqrstuvwxyz" : Str)).length 1 = [k.val] := by decide +kernel
theorem alpha_len : (("abcdefghijklmnopqrstuvwxyz" : Str)).length ≤ sizeLine := by decide
theorem Letters.app {l m : List Nat} (h : Letters l) (k : Letters m) : Letters (l ++ m) := fun c hc => (List.mem_append.mp hc).elim (h c) (k c)
theorem Letters.one {c : Nat} (h0 : 97 ≤ c) (h1 : c ≤ 122) : Letters [c] := fun d hd => by rw [List.mem_singleton.mp hd]; exact ⟨h0, h1⟩
/-- the word whose last sign has gone t signs on -/
def wat (pre : List Nat) (c t : Nat) : Str := ⟨(pre ++ [97 + (c - 97 + t) % 26]).toArray⟩
theorem wat_len {pre : List Nat} {c t : Nat} : (wat pre c t).length = pre.length + 1 := by
  show ((pre ++ [97 + (c - 97 + t) % 26]).toArray).size = _
  rw [List.size_toArray, List.length_append]; rfl
theorem wat_last {pre : List Nat} {c t : Nat} : atI (wat pre c t).cps.toList (-1) = some (97 + (c - 97 + t) % 26) := by
  show atI (pre ++ [97 + (c - 97 + t) % 26]) (-1) = _
  unfold atI ixN
  rw [if_neg (by decide)]
  have h1 : ((pre ++ [97 + (c - 97 + t) % 26]).length : Int) = (pre.length : Int) + 1 := by rw [List.length_append]; rfl
  have e : (-1 + ((pre ++ [97 + (c - 97 + t) % 26]).length : Int)).toNat = pre.length := by omega
  rw [if_pos (by omega), e]
  simp
theorem wat_next {pre : List Nat} {c t : Nat} : wat pre c (t + 1) = cutS (wat pre c t) none (some (-1)) ++ (⟨#[97 + ((c - 97 + t) % 26 + 1) % 26]⟩ : Str) := by
  apply str_ext
  apply Array.toList_inj.mp
  rw [append_cps, Array.toList_append]
  show pre ++ [97 + (c - 97 + (t + 1)) % 26] = (((pre ++ [97 + (c - 97 + t) % 26]).drop 0).take _) ++ [97 + ((c - 97 + t) % 26 + 1) % 26]
  have h2 : HT.sIx (wat pre c t).length (wat pre c t).length (some (-1)) - HT.sIx (wat pre c t).length 0 none = pre.length := by
    rw [wat_len]
    unfold HT.sIx
    simp
    omega
  rw [h2, List.drop_zero, List.take_left]
  have : (c - 97 + (t + 1)) % 26 = ((c - 97 + t) % 26 + 1) % 26 := by omega
  rw [this]
theorem nodup_le {l : List Str} : ∀ {m : List Str}, l.Nodup → (∀ x ∈ l, x ∈ m) → l.length ≤ m.length := by
  induction l with
  | nil => intro m _ _; exact Nat.zero_le _
  | cons a t ih =>
    intro m nd h
    rw [List.nodup_cons] at nd
    have ha := h a List.mem_cons_self
    have := ih (m := m.erase a) nd.2 fun x hx => (List.mem_erase_of_ne (fun e => nd.1 (by rw [← e]; exact hx))).mpr (h x (List.mem_cons_of_mem _ hx))
    rw [List.length_erase_of_mem ha] at this
    have : 0 < m.length := List.length_pos_of_mem ha
    rw [List.length_cons]
    omega
theorem wat_many {pre : List Nat} {c : Nat} {ns : List Str} (h : ∀ t, t < 26 → wat pre c t ∈ ns) : 26 ≤ ns.length := by
  have nd : ((List.range 26).map (wat pre c)).Nodup := by
    rw [List.nodup_iff_pairwise_ne, List.pairwise_map]
    refine List.Pairwise.imp_of_mem (fun {a b} ha hb hab e => hab ?_) (List.nodup_iff_pairwise_ne.mp List.nodup_range)
    have e1 : pre ++ [97 + (c - 97 + a) % 26] = pre ++ [97 + (c - 97 + b) % 26] := congrArg (fun z : Str => z.cps.toList) e
    have e2 := List.append_cancel_left e1
    have e3 : 97 + (c - 97 + a) % 26 = 97 + (c - 97 + b) % 26 := List.head_eq_of_cons_eq e2
    have := List.mem_range.mp ha
    have := List.mem_range.mp hb
    omega
  have := nodup_le nd fun x hx => by
    obtain ⟨t, ht, rfl⟩ := List.mem_map.mp hx
    exact h t (List.mem_range.mp ht)
  rw [List.length_map, List.length_range] at this
  exact this
theorem sv_inj {a b : List Str} (h : sv a = sv b) : a = b := by
  have : ∀ {a b : List Str}, sv a = sv b → a = b := fun {a b} => by
    intro h
    induction a generalizing b with
    | nil => cases b with | nil => rfl | cons _ _ => cases h
    | cons x t ih =>
      cases b with
      | nil => cases h
      | cons y u =>
        have h1 := List.cons.inj h
        rw [V.str.inj h1.1, ih h1.2]
  exact this h
section
variable {P : Program} {w : World} {K : PySem.W.Frag} {mg : Str → Option Value} {base : Heap} {A : Ad}
def spWord (K : PySem.W.Frag) : Sp := fun vs H Q _ => ∃ (p : Addr) (ns : List Int) (i : Int), vs = [.ref p, .int i] ∧ SqL K H p (ns.map V.int) ∧ Pool ns ∧ 0 ≤ i ∧ i + 2 < ns.length ∧ ∀ z, Good z → Q (.str z) H
theorem ok_word (T : Txt P K mg A) : FnOk P w K mg base CX0 1 A.a_law_word A.d_law_word ["pool", "at"] (spWord K) := by
  refine T.F_law_word.ok sc_law_word (fun vs H Q E h => ?_) (fun cdv A' outer s H vs Q E hr h => ?_)
  · obtain ⟨p, ns, i, rfl, _⟩ := h
    rfl
  · obtain ⟨p, ns, i, rfl, hS, hp, h0, h1, k⟩ := h
    refine ⟨_, (pss_cons (ps_set (i := 2) sc_law_word.nd rfl (Or.inl rfl) (pe_op op_add (pe_op op_mul (pe_op op_add (pe_op op_mul (pe_ix ix_list (pv 0) (pv 1) (fun _ _ => rfl)) pe_int) (pe_ix ix_list (pv 0) (pe_op op_add (pv 1) pe_int) (fun _ _ => rfl))) pe_int) (pe_ix ix_list (pv 0) (pe_op op_add (pv 1) pe_int) (fun _ _ => rfl))))
      (pss_cons (ps_set (i := 3) sc_law_word.nd rfl (Or.inl rfl) (pe_op op_add pe_int (pe_op op_mod (pe_callTy call_int1 (by rfl) T.n_int (by decide +kernel) (pa_cons (pv 2) pa_nil)) pe_int)))
      (pss_cons (ps_set (i := 2) sc_law_word.nd rfl (Or.inl rfl) (pe_op op_fdiv (pv 2) pe_int))
      (pss_cons (ps_set (i := 4) sc_law_word.nd rfl (Or.inl rfl) pe_str)
      (pss_cons (ps_for PassesOwn.never rfl (pi_range1 (by rfl) T.n_range (pa_cons (pv 3) pa_nil)) (pg_name (i := 5) sc_law_word.nd rfl (Or.inl rfl))
        (pss_cons (ps_set (i := 4) sc_law_word.nd rfl (Or.inl rfl) (pe_op op_add_str (pv 4) (pe_ix ix_str pe_str (pe_op op_mod (pe_callTy call_int1 (by rfl) T.n_int (by decide +kernel) (pa_cons (pv 2) pa_nil)) pe_int) (fun _ _ => rfl))))
      (pss_one (ps_set (i := 2) sc_law_word.nd rfl (Or.inl rfl) (pe_op op_fdiv (pv 2) pe_int)))))
      (pss_one (ps_ret (pv 4)))))))), ?_⟩
    obtain ⟨x0, hx0, e0⟩ := atI_ok (xs := ns) (j := i) h0 (by omega)
    obtain ⟨x1, hx1, e1⟩ := atI_ok (xs := ns) (j := i + 1) (by omega) (by omega)
    obtain ⟨x2, hx2, e2⟩ := atI_ok (xs := ns) (j := i + 2) (by omega) (by omega)
    have y0 := hp x0 hx0
    have y1 := hp x1 hx1
    have y2 := hp x2 hx2
    refine ⟨_, rfl, _, rfl, _, _, _, _, rfl, rfl, hS, e0, _, _, rfl, rfl, .inr (by decide), _, rfl, _, rfl, _, _, rfl, rfl, _, _, _, _, rfl, rfl, hS, e1, _, _, rfl, rfl, _, _, rfl, rfl, .inr (by decide), _, rfl, _, rfl, _, _, rfl, rfl, _, _, _, _, rfl, rfl, hS, e2, _, _, rfl, rfl, ?_⟩
    dsimp only
    generalize hc : ((x0 * 27720 + x1) * 27720 + x2) = code
    have hc0 : 0 ≤ code := by omega
    have m0 := Int.emod_nonneg code (show (8 : Int) ≠ 0 by decide)
    have m1 := Int.emod_lt_of_pos code (show (0 : Int) < 8 by decide)
    refine ⟨_, rfl, .inl ⟨_, rfl, _, _, rfl, rfl, by show (0 : Int) < 8; decide, _, _, rfl, rfl, ?_⟩⟩
    refine ⟨_, rfl, _, _, rfl, rfl, ⟨by decide, by decide⟩, ?_⟩
    dsimp only
    generalize hsz : (1 : Int) + code % 8 = size
    refine ⟨_, rfl, size, rfl, by omega, by omega, for_range (n := size.toNat) (fun j σ H2 => H2 = H ∧ ∃ (c : Int) (z : Str) (u : Option V), σ = [some (.ref p), some (.int i), some (.int c), some (.int size), some (.str z), u] ∧ 0 ≤ c ∧ z.length = j ∧ Letters z.cps.toList)
      ⟨rfl, code / 8, ("" : Str), none, rfl, Int.ediv_nonneg hc0 (by decide), by decide, by rw [show (("" : Str)).cps.toList = [] by decide]; exact fun c hc => nomatch hc⟩ ?_ ?_⟩
    · rintro j σ H2 hj ⟨rfl, c, z, u, rfl, hc1, hl, hlet⟩
      have n0 := Int.emod_nonneg c (show (26 : Int) ≠ 0 by decide)
      have n1 := Int.emod_lt_of_pos c (show (0 : Int) < 26 by decide)
      have ea := alpha_at ⟨(c % 26).toNat, by omega⟩
      have ea : atI (("abcdefghijklmnopqrstuvwxyz" : Str)).cps.toList (((c % 26).toNat : Nat) : Int) = some (97 + (c % 26).toNat) := ea
      rw [show (((c % 26).toNat : Nat) : Int) = c % 26 by omega] at ea
      refine ⟨_, rfl, _, rfl, .inl ⟨_, rfl, _, _, rfl, rfl, by show (0 : Int) < 26; decide, _, _, _, rfl, rfl, alpha_len, ea, _, _, rfl, rfl, ?_, ?_⟩⟩
      · show z.length + 1 ≤ sizeLine
        rw [hl]
        have : j + 1 ≤ 8 := by omega
        exact Nat.le_trans this (by decide)
      · refine ⟨_, rfl, _, _, rfl, rfl, ⟨by decide, by decide⟩, rfl, c / 26, _, _, rfl, Int.ediv_nonneg hc1 (by decide), ?_, ?_⟩
        · rw [Str.length_append, hl]; rfl
        · rw [append_cps, Array.toList_append]
          exact hlet.app (Letters.one (by omega) (by omega))
    · rintro σ H2 ⟨rfl, c, z, u, rfl, hc1, hl, hlet⟩
      exact ⟨_, rfl, k z ⟨by omega, by omega, hlet⟩⟩
def spNew (K : PySem.W.Frag) : Sp := fun vs H Q _ => ∃ (l : Addr) (ns : List Str) (z : Str), vs = [.ref l, .str z] ∧ SqL K H l (sv ns) ∧ ns.length ≤ 25 ∧ Good z ∧ ∀ z', Good z' → z' ∉ ns → Q (.str z') H
theorem ok_new (T : Txt P K mg A) : FnOk P w K mg base CX0 1 A.a_law_new A.d_law_new ["names", "word"] (spNew K) := by
  refine T.F_law_new.ok sc_law_new (fun vs H Q E h => ?_) (fun cdv A' outer s H vs Q E hr h => ?_)
  · obtain ⟨l, ns, z, rfl, _⟩ := h
    rfl
  · obtain ⟨l, ns, z, rfl, hS, hl, g, k⟩ := h
    refine ⟨_, (pss_cons (ps_set (i := 2) sc_law_new.nd rfl (Or.inl rfl) pe_str)
      (pss_cons (ps_for PassesOwn.never rfl (pi_range1 (by rfl) T.n_range (pa_cons pe_int pa_nil)) (pg_name (i := 3) sc_law_new.nd rfl (Or.inl rfl))
        (pss_cons (ps_if (pt_cmpR op_notIn_seq (pv 1) (pv 0) (by with_unfolding_all rfl)) (pss_one ps_break) pss_nil)
      (pss_one (ps_set (i := 1) sc_law_new.nd rfl (Or.inl rfl) (pe_op op_add_str (pe_slice sl_str (pv 1) po_none (po_some (pe_un un_neg pe_int))) (pe_ix ix_str (pv 2) (pe_op op_mod (pe_callTy call_int1 (by rfl) T.n_int (by decide +kernel) (pa_cons (pe_op op_add (pe_m1 PySem.F.slot_str_index PySem.F.type_str_index mt_sindex (pv 2) (pe_ix ix_str (pv 1) (pe_un un_neg pe_int) (fun _ _ => rfl))) pe_int) pa_nil)) pe_int) (fun _ _ => rfl)))))))
      (pss_one (ps_ret (pv 1))))), ?_⟩
    obtain ⟨pre, c, hz⟩ : ∃ pre c, z.cps.toList = pre ++ [c] := by
      have h1 : 0 < z.cps.toList.length := by have := g.pos; have e : z.cps.toList.length = z.length := Array.length_toList; omega
      exact ⟨_, _, (List.dropLast_concat_getLast (List.length_pos_iff.mp h1)).symm⟩
    have hc : 97 ≤ c ∧ c ≤ 122 := g.let_ c (by rw [hz]; simp)
    have hpre : Letters pre := fun x hx => g.let_ x (by rw [hz]; exact List.mem_append_left _ hx)
    have hpl : pre.length + 1 = z.length := by
      have e : z.cps.toList.length = z.length := Array.length_toList
      rw [hz] at e; simpa using e
    have hg : ∀ t, Good (wat pre c t) := fun t => by
      have := g.pos
      have := g.le
      refine ⟨?_, ?_, ?_⟩
      · rw [wat_len]; omega
      · rw [wat_len]; omega
      · show Letters (pre ++ [97 + (c - 97 + t) % 26])
        exact hpre.app (Letters.one (by omega) (by omega))
    have hz0 : z = wat pre c 0 := by
      apply str_ext
      apply Array.toList_inj.mp
      rw [hz]
      show pre ++ [c] = pre ++ [97 + (c - 97 + 0) % 26]
      have : 97 + (c - 97 + 0) % 26 = c := by omega
      rw [this]
    rw [hz0]
    have hsl : ∀ t, (wat pre c t).length ≤ sizeLine := fun t => Nat.le_trans (hg t).le (by decide)
    refine ⟨26, rfl, by decide, by decide, for_range (n := 26) (fun t σ H2 => H2 = H ∧ ∃ u : Option V, σ = [some (.ref l), some (.str (wat pre c t)), some (.str "abcdefghijklmnopqrstuvwxyz"), u] ∧ ∀ s, s < t → wat pre c s ∈ ns)
      ⟨rfl, none, rfl, fun s hs => absurd hs (Nat.not_lt_zero _)⟩ ?_ ?_⟩
    · rintro t σ H2 ht ⟨rfl, u, rfl, hall⟩
      refine ⟨_, rfl, _, rfl, l, _, rfl, .inl hS, rfl, flat_sv _, _, rfl, ?_⟩
      rw [if_pos (rfl : true = true), inV_str]
      by_cases hin : wat pre c t ∈ ns
      · refine ifF (by rw [decide_eq_true hin]; rfl) ?_
        have m26 : (c - 97 + t) % 26 < 26 := Nat.mod_lt _ (by decide)
        have ei : Builtin.Str.occurrences ("abcdefghijklmnopqrstuvwxyz" : Str) ⟨#[97 + (c - 97 + t) % 26]⟩ 0 (("abcdefghijklmnopqrstuvwxyz" : Str)).length 1 = [(c - 97 + t) % 26] := alpha_ix ⟨_, m26⟩
        have k26 : ((c - 97 + t) % 26 + 1) % 26 < 26 := Nat.mod_lt _ (by decide)
        have ea : atI (("abcdefghijklmnopqrstuvwxyz" : Str)).cps.toList (((((c - 97 + t) % 26 + 1) % 26 : Nat)) : Int) = some (97 + ((c - 97 + t) % 26 + 1) % 26) := alpha_at ⟨_, k26⟩
        rw [show (((((c - 97 + t) % 26 + 1) % 26 : Nat)) : Int) = ((((c - 97 + t) % 26 : Nat)) + 1 : Int) % 26 by omega] at ea
        refine ⟨_, rfl, _, rfl, _, rfl, _, rfl, hsl t, _, rfl, _, rfl, ⟨_, rfl⟩, _, rfl, _, rfl, _, _, _, rfl, rfl, hsl t, wat_last, _, _, _, _, rfl, rfl, ei, _, _, rfl, rfl, .inl ⟨_, rfl, _, _, rfl, rfl, by show (0 : Int) < 26; decide, _, _, _, rfl, rfl, alpha_len, ea, _, _, rfl, rfl, ?_, rfl, some (.int (0 + (t : Int))), ?_, ?_⟩⟩
        · refine Nat.le_trans (Nat.add_le_add_right (cutS_length _ _ _) 1) ?_
          have := (hg t).le
          exact Nat.le_trans (Nat.succ_le_succ this) (by decide)
        · rw [wat_next]; rfl
        · intro s hs
          rcases Nat.lt_succ_iff_lt_or_eq.mp hs with q | q
          · exact hall s q
          · rw [q]; exact hin
      · refine ifT (by rw [decide_eq_false hin]; rfl) ?_
        exact ⟨_, rfl, k _ (hg t) hin⟩
    · rintro σ H2 ⟨rfl, u, rfl, hall⟩
      exfalso
      have := wat_many (fun t ht => hall t ht)
      omega
def spSeq (K : PySem.W.Frag) : Sp := fun vs H Q _ => ∃ (l : Addr) (ns : List Str) (d : Int), vs = [.ref l, .int d] ∧ SqL K H l (sv ns) ∧ ns.length ≤ 50 ∧ ∀ p ms H', Same H H' → H' p = some (.lst (sv ms)) → ms.Perm ns → Q (.ref p) H'
theorem ok_seq (T : Txt P K mg A) : FnOk P w K mg base CX0 1 A.a_law_sequence A.d_law_sequence ["names", "draw"] (spSeq K) := by
  refine T.F_law_sequence.ok sc_law_sequence (fun vs H Q E h => ?_) (fun cdv A' outer s H vs Q E hr h => ?_)
  · obtain ⟨l, ns, d, rfl, _⟩ := h
    rfl
  · obtain ⟨l, ns, d, rfl, hS, hl, k⟩ := h
    refine ⟨_, (pss_cons (ps_set (i := 2) sc_law_sequence.nd rfl (Or.inl rfl) (pe_callTy call_list_of (by rfl) T.n_list (by decide +kernel) (pa_cons (pv 0) pa_nil)))
      (pss_cons (ps_set (i := 3) sc_law_sequence.nd rfl (Or.inl rfl) (pe_lst pa_nil))
      (pss_cons (ps_for PassesOwn.never rfl (pi_range1 (by rfl) T.n_range (pa_cons (pe_callB call_len_seq (by rfl) T.n_len (by decide +kernel) (pa_cons (pv 0) pa_nil)) pa_nil)) (pg_name (i := 4) sc_law_sequence.nd rfl (Or.inl rfl))
        (pss_cons (ps_set (i := 5) sc_law_sequence.nd rfl (Or.inl rfl) (pe_op op_mod (pe_callTy call_int1 (by rfl) T.n_int (by decide +kernel) (pa_cons (pv 1) pa_nil)) (pe_callB call_len_seq (by rfl) T.n_len (by decide +kernel) (pa_cons (pv 2) pa_nil))))
      (pss_cons (ps_set (i := 1) sc_law_sequence.nd rfl (Or.inl rfl) (pe_op op_fdivX (pv 1) (pe_callB call_len_seq (by rfl) T.n_len (by decide +kernel) (pa_cons (pv 2) pa_nil))))
      (pss_cons (ps_expr (pe_bm PySem.F.plainAttrs_list PySem.F.slot_list_append PySem.F.type_list_append mt_append (pv 3) (pa_cons (pe_ix ix_list (pv 2) (pv 5) (fun _ _ => rfl)) pa_nil)))
      (pss_one (ps_set (i := 2) sc_law_sequence.nd rfl (Or.inl rfl) (pe_op op_cat (pe_slice sl_list (pv 2) po_none (po_some (pv 5))) (pe_slice sl_list (pv 2) (po_some (pe_op op_add (pv 5) pe_int)) po_none))))))))
      (pss_one (ps_ret (pv 3)))))), ?_⟩
    refine ⟨_, rfl, l, _, rfl, .inl hS, fun q0 hq0 => ?_⟩
    refine ⟨by show 0 ≤ sizeLine; decide, fun r hr => ?_⟩
    have s1 := same_new (o := .lst (sv ns)) hq0
    have nqr : q0 ≠ r := ne_of_none upd_same hr
    refine ⟨_, rfl, l, _, rfl, .inl ((s1.trans (same_new hr)).seq hS), ?_⟩
    rw [len_sv]
    refine ⟨_, rfl, by omega, by omega, for_range (n := ns.length) (fun j σ H3 => ∃ (d : Int) (q : Addr) (ls ms : List Str) (u4 u5 : Option V), σ = [some (.ref l), some (.int d), some (.ref q), some (.ref r), u4, u5] ∧
      Same (upd H q0 (.lst (sv ns))) H3 ∧ H3 r = some (.lst (sv ms)) ∧ H3 q = some (.lst (sv ls)) ∧ (ms ++ ls).Perm ns ∧ ms.length = j ∧ q ≠ r) ⟨d, q0, ns, [], none, none, rfl, same_new hr, upd_same, by rw [upd_ne nqr]; exact upd_same, List.Perm.refl _, rfl, nqr⟩ ?_ ?_⟩
    · rintro j σ H3 hj ⟨d, q, ls, ms, u4, u5, rfl, sm, h3, hq, hp, hm, nq⟩
      have hlen := hp.length_eq
      rw [List.length_append] at hlen
      have hpos : 0 < ls.length := by omega
      have p0 := Int.emod_nonneg d (show ((ls.length : Nat) : Int) ≠ 0 by omega)
      have p1 := Int.emod_lt_of_pos d (show (0 : Int) < ((ls.length : Nat) : Int) by omega)
      refine ⟨_, rfl, .inl ⟨_, rfl, _, rfl, q, _, rfl, .inl (SqL.of hq), _, _, rfl, rfl, by rw [len_sv]; omega, ?_⟩⟩
      dsimp only
      rw [len_sv]
      generalize hpk : d % ((ls.length : Nat) : Int) = pick at p0 p1 ⊢
      obtain ⟨n, rfl⟩ := Int.eq_ofNat_of_zero_le p0
      have hn : n < ls.length := by omega
      refine ⟨_, rfl, _, rfl, q, _, rfl, .inl (SqL.of hq), _, _, rfl, rfl, ⟨by rw [len_sv]; omega, ?_⟩, ?_⟩
      · rw [len_sv, Int.natAbs_natCast]
        have : ls.length ≤ 50 := by omega
        exact Nat.lt_of_le_of_lt this (by decide)
      have at1 : atI (sv ls) ((n : Nat) : Int) = some (V.str ls[n]) := atI_nat (by rw [List.getElem?_map, List.getElem?_eq_getElem hn]; rfl)
      refine ⟨_, rfl, .inl ⟨rfl, _, SqL.of h3⟩, _, rfl, _, rfl, _, _, _, _, rfl, rfl, SqL.of hq, at1, r, _, _, rfl, rfl, h3, small_int (by rw [len_sv]; omega), ?_⟩
      generalize hX : upd H3 r _ = H4
      have sm4 : Same (upd H q0 (.lst (sv ns))) H4 := fun b o e => by rw [← hX, upd_ne (ne_of_none e hr)]; exact sm _ _ e
      have hr4 : H4 r = some (.lst (sv (ms ++ [ls[n]]))) := by rw [← hX, sv_snoc]; exact upd_same
      have hq4 : H4 q = some (.lst (sv ls)) := by rw [← hX, upd_ne nq]; exact hq
      clear hX
      refine ⟨_, rfl, _, rfl, _, rfl, q, _, rfl, SqL.of hq4, fun a ha => ⟨_, rfl, _, rfl, _, _, rfl, rfl, _, rfl, q, _, rfl, SqL.of (same_new ha _ _ hq4), fun b hb => ?_⟩⟩
      have nab : a ≠ b := ne_of_none upd_same hb
      rw [cut_take (by rw [len_sv]; omega), sv_take] at hb ⊢
      rw [show ((n : Int) + 1) = ((n + 1 : Nat) : Int) by omega, cut_drop (by rw [len_sv]; omega), sv_drop]
      refine ⟨a, b, _, _, rfl, rfl, by rw [upd_ne nab]; exact upd_same, upd_same, ?_, fun c hc => ?_⟩
      · rw [len_sv, len_sv, List.length_take, List.length_drop]
        have : min n ls.length + (ls.length - (n + 1)) ≤ 50 := by omega
        exact Nat.le_trans this (by decide)
      · have s5 := (same_new (o := .lst (sv (ls.take n))) ha).trans ((same_new (o := .lst (sv (ls.drop (n + 1)))) hb).trans (same_new (o := .lst (sv (ls.take n) ++ sv (ls.drop (n + 1)))) hc))
        refine ⟨_, c, ls.take n ++ ls.drop (n + 1), ms ++ [ls[n]], _, _, rfl, sm4.trans s5, s5 _ _ hr4, ?_, ?_, by rw [List.length_append, hm]; rfl, fun z => ?_⟩
        · rw [upd_same]; exact congrArg (fun z => some (HO.lst z)) List.map_append.symm
        · refine List.Perm.trans ?_ hp
          rw [List.append_assoc]
          refine List.Perm.append_left ms ?_
          have e : ls = ls.take n ++ ls[n] :: ls.drop (n + 1) := by
            conv => lhs; rw [← List.take_append_drop n ls]
            rw [List.drop_eq_getElem_cons hn]
          conv => rhs; rw [e]
          show (ls[n] :: (ls.take n ++ ls.drop (n + 1))).Perm _
          exact List.perm_middle.symm
        · subst z
          rw [((same_new (o := .lst (sv (ls.take n))) ha).trans (same_new (o := .lst (sv (ls.drop (n + 1)))) hb)) _ _ hr4] at hc
          cases hc
    · rintro σ H3 ⟨d, q, ls, ms, u4, u5, rfl, sm, h3, hq, hp, hm, nq⟩
      have hl0 : ls = [] := by
        have := hp.length_eq
        rw [List.length_append] at this
        exact List.eq_nil_of_length_eq_zero (by omega)
      subst hl0
      rw [List.append_nil] at hp
      exact ⟨_, rfl, k r ms H3 (s1.trans sm) h3 hp⟩
end
end My
set_option maxRecDepth 100000
set_option maxHeartbeats 4000000
set_option exponentiation.threshold 10000
namespace My
open PySem L2
open C8 (pss_cut)
theorem eee : ("eeeeeee" : Str).length = 7 ∧ Letters ("eeeeeee" : Str).cps.toList := ⟨by decide, by rw [show ("eeeeeee" : Str).cps.toList = [101, 101, 101, 101, 101, 101, 101] by decide]; unfold Letters; decide⟩
def nums13 : List Int := [3, 4, 5, 2, 8, 6, 9, 10, 1, 7, 0, 12, 11]
theorem nums13_le : ∀ v ∈ nums13, 0 ≤ v ∧ v ≤ 12 := by decide
theorem Good.cut {z y : Str} (h : Good z) (hy : Letters y.cps.toList) {m : Int} (h0 : 1 ≤ m) (h1 : m ≤ 8) : Good (cutS (z ++ y) none (some m)) := by
  have hl : (cutS (z ++ y) none (some m)).length = min m.toNat (z.length + y.length) := by
    show (((((z ++ y).cps.toList.drop 0).take _)).toArray).size = _
    rw [List.size_toArray, List.drop_zero, List.length_take]
    have e : (z ++ y).cps.toList.length = z.length + y.length := by rw [Array.length_toList]; exact Str.length_append ..
    have e2 : (z ++ y).length = z.length + y.length := Str.length_append ..
    rw [e]
    have e3 : HT.sIx (z ++ y).length (z ++ y).length (some m) - HT.sIx (z ++ y).length 0 none = min m.toNat (z.length + y.length) := by
      rw [HT.sIx_none, e2]
      show (if m < 0 then (m + ((z.length + y.length : Nat) : Int)).toNat else min m.toNat (z.length + y.length)) - 0 = _
      rw [if_neg (by omega)]; rfl
    rw [e3]; omega
  have := h.pos
  refine ⟨by rw [hl]; omega, by rw [hl]; omega, fun c hc => ?_⟩
  have hc : c ∈ ((z ++ y).cps.toList.drop 0).take _ := hc
  have hc := List.mem_of_mem_take hc
  rw [List.drop_zero, append_cps, Array.toList_append] at hc
  exact (List.mem_append.mp hc).elim (h.let_ c) (hy c)
section
variable {P : Program} {w : World} {K : PySem.W.Frag} {mg : Str → Option Value} {base : Heap} {A : Ad}
def spNames (K : PySem.W.Frag) : Sp := fun vs H Q _ => ∃ (p : Addr) (ns : List Int), vs = [.ref p] ∧ SqL K H p (ns.map V.int) ∧ Pool ns ∧ ns.length = 60 ∧
  ∀ c cs H', Same H H' → H' c = some (.lst (sv cs)) → (∀ z ∈ cs, Good z) → cs.Nodup → cs.length ≤ 12 → Q (.ref c) H'
theorem ok_names (T : Txt P K mg A) : FnOk P w K mg base CX0 2 A.a_law_names A.d_law_names ["pool"] (spNames K) := by
  have G_law_word := ok_word (P := P) (w := w) (base := base) T
  have G_law_new := ok_new (P := P) (w := w) (base := base) T
  refine T.F_law_names.ok sc_law_names (fun vs H Q E h => ?_) (fun cdv A' outer s H vs Q E hr h => ?_)
  · obtain ⟨p, ns, rfl, _⟩ := h
    rfl
  · obtain ⟨p, ns, rfl, hS, hp, hl, k⟩ := h
    refine ⟨_, (pss_cons (ps_set (i := 1) sc_law_names.nd rfl (Or.inl rfl) (pe_lst pa_nil))
      (pss_cons (ps_for PassesOwn.never rfl (pi_range1 (by rfl) T.n_range (pa_cons (pe_ix ix_list (pe_lst (pa_cons pe_int (pa_cons pe_int (pa_cons pe_int (pa_cons pe_int (pa_cons pe_int (pa_cons pe_int (pa_cons pe_int (pa_cons pe_int (pa_cons pe_int (pa_cons pe_int (pa_cons pe_int (pa_cons pe_int (pa_cons pe_int pa_nil)))))))))))))) (pe_op op_mod (pe_callTy call_int1 (by rfl) T.n_int (by decide +kernel) (pa_cons (pe_ix ix_list (pv 0) pe_int (fun _ _ => rfl)) pa_nil)) pe_int) (fun _ _ => rfl)) pa_nil)) (pg_name (i := 2) sc_law_names.nd rfl (Or.inl rfl))
        (pss_cons (ps_set (i := 3) sc_law_names.nd rfl (Or.inl rfl) (pe_call G_law_word (hr.mono (by decide)) rfl T.mg_law_word T.F_law_word.kp T.b_law_word .nil pass0 (pa_cons (pv 0) (pa_cons (pe_op op_add pe_int (pe_op op_mul pe_int (pv 2))) pa_nil))))
      (pss_cut (ps_if (pt_cmpR op_eq (pe_op op_mod (pe_callTy call_int1 (by rfl) T.n_int (by decide +kernel) (pa_cons (pe_ix ix_list (pv 0) pe_int (fun _ _ => rfl)) pa_nil)) pe_int) pe_int (nomark _)) (pss_one (ps_set (i := 3) sc_law_names.nd rfl (Or.inl rfl) (pe_slice sl_str (pe_op op_add_str (pv 3) pe_str) po_none (po_some (pe_op op_add pe_int (pe_op op_mod (pe_callTy call_int1 (by rfl) T.n_int (by decide +kernel) (pa_cons (pe_ix ix_list (pv 0) pe_int (fun _ _ => rfl)) pa_nil)) pe_int)))))) pss_nil)
      (pss_one (ps_expr (pe_bm PySem.F.plainAttrs_list PySem.F.slot_list_append PySem.F.type_list_append mt_append (pv 1) (pa_cons (pe_call G_law_new (hr.mono (by decide)) rfl T.mg_law_new T.F_law_new.kp T.b_law_new .nil pass0 (pa_cons (pv 1) (pa_cons (pv 3) pa_nil))) pa_nil)))))))
      (pss_one (ps_ret (pv 1))))), ?_⟩
    refine ⟨by show 0 ≤ sizeLine; decide, fun c hc => ?_⟩
    have s1 := same_new (o := .lst []) hc
    refine ⟨by show 13 ≤ sizeLine; decide, fun l hl13 => ?_⟩
    have s2 := s1.trans (same_new (o := .lst (nums13.map V.int)) hl13)
    obtain ⟨x0, _, e0⟩ := atI_ok (xs := ns) (j := 0) (by decide) (by omega)
    have m0 := Int.emod_nonneg x0 (show (13 : Int) ≠ 0 by decide)
    have m1 := Int.emod_lt_of_pos x0 (show (0 : Int) < 13 by decide)
    obtain ⟨v, hv, ev⟩ := atI_ok (xs := nums13) m0 (by show x0 % 13 < 13; omega)
    have hv := nums13_le v hv
    refine ⟨_, rfl, _, _, _, _, rfl, rfl, s2.seq hS, e0, .inl ⟨_, rfl, _, _, rfl, rfl, by show (0 : Int) < 13; decide, _, _, _, _, rfl, rfl, SqL.of upd_same, ev, ?_⟩⟩
    have ncl : c ≠ l := ne_of_none upd_same hl13
    refine ⟨v, rfl, by omega, by omega, for_range (n := v.toNat) (fun j σ H3 => ∃ (cs : List Str) (u2 u3 : Option V), σ = [some (.ref p), some (.ref c), u2, u3] ∧ Same H H3 ∧ H3 c = some (.lst (sv cs)) ∧ (∀ z ∈ cs, Good z) ∧ cs.Nodup ∧ cs.length = j)
      ⟨[], none, none, rfl, s2, by rw [upd_ne ncl]; exact upd_same, (fun z hz => nomatch hz), List.nodup_nil, rfl⟩ ?_ ?_⟩
    · rintro j σ H3 hj ⟨cs, u2, u3, rfl, s3, h3, hg, nd, hlen⟩
      refine ⟨_, rfl, _, rfl, _, _, rfl, rfl, .inl ⟨by decide, by decide⟩, _, _, rfl, rfl, p, ns, _, rfl, s3.seq hS, hp, by omega, by omega, fun z gz => ?_⟩
      refine ⟨fun σ H6 => H6 = H3 ∧ ∃ z : Str, Good z ∧ σ = [some (.ref p), some (.ref c), some (.int (0 + (j : Int))), some (.str z)], ?_, ?_⟩
      · obtain ⟨x37, _, e37⟩ := atI_ok (xs := ns) (j := 37) (by decide) (by omega)
        obtain ⟨x38, _, e38⟩ := atI_ok (xs := ns) (j := 38) (by decide) (by omega)
        have q0 := Int.emod_nonneg x38 (show (8 : Int) ≠ 0 by decide)
        have q1 := Int.emod_lt_of_pos x38 (show (0 : Int) < 8 by decide)
        refine ⟨_, rfl, _, _, _, _, rfl, rfl, s3.seq hS, e37, .inl ⟨_, rfl, _, _, rfl, rfl, by show (0 : Int) < 3; decide, rfl, _, rfl, ?_⟩⟩
        have gl := gz.le
        refine ite2 (fun hb => ?_) (fun hb => ?_)
        · refine ⟨_, rfl, _, _, rfl, rfl, ?_, _, rfl, _, _, _, _, rfl, rfl, s3.seq hS, e38, .inl ⟨_, rfl, _, _, rfl, rfl, by show (0 : Int) < 8; decide, _, _, rfl, rfl, _, rfl, _, rfl, ?_, rfl, _, gz.cut eee.2 ?_ ?_, rfl⟩⟩
          · rw [eee.1]; exact Nat.le_trans (Nat.add_le_add_right gl 7) (by decide)
          · rw [Str.length_append, eee.1]; exact Nat.le_trans (Nat.add_le_add_right gl 7) (by decide)
          · show (1 : Int) ≤ 1 + x38 % 8; omega
          · show (1 : Int) + x38 % 8 ≤ 8; omega
        · exact ⟨rfl, z, gz, rfl⟩
      rintro σ H6 ⟨rfl, z, gz, rfl⟩
      refine ⟨_, rfl, .inl ⟨rfl, _, SqL.of h3⟩, _, rfl, _, rfl, c, cs, z, rfl, SqL.of h3, by omega, gz, fun z' g' n' => ⟨c, _, _, rfl, rfl, h3, small_int (by rw [len_sv]; omega), cs ++ [z'], _, _, rfl, ?_, ?_, ?_, ?_, ?_⟩⟩
      · intro b o e
        rw [upd_ne (ne_of_none e hc)]
        exact s3 _ _ e
      · rw [sv_snoc]; exact upd_same
      · intro y hy
        rcases List.mem_append.mp hy with hy | hy
        · exact hg y hy
        · rw [List.mem_singleton.mp hy]; exact g'
      · rw [List.nodup_append]
        exact ⟨nd, by simp, fun a ha b hb e => n' (by rw [← List.mem_singleton.mp hb, ← e]; exact ha)⟩
      · rw [List.length_append, hlen]; rfl
    · rintro σ H3 ⟨cs, u2, u3, rfl, s3, h3, hg, nd, hlen⟩
      exact ⟨_, rfl, k c cs H3 s3 h3 hg nd (by omega)⟩
/-- rows over the columns cs -/
def RowsOk (cs : List Str) (rs : List (List Str)) : Prop := ∀ x ∈ rs, x.Nodup ∧ ∀ y ∈ x, y ∈ cs
theorem Lss.updNe {f : List V → HO} {H : Hp} {ts : List Addr} {rs : List (List Str)} {l : Addr} {o : HO} (h : Lss f H ts rs) (hne : ∀ (i : Nat) (t : Addr), ts[i]? = some t → t ≠ l) : Lss f (upd H l o) ts rs :=
  ⟨h.len, fun i t x a b => by rw [upd_ne (hne i t a)]; exact h.at_ i t x a b⟩
theorem ne_app {ts : List Addr} {a l : Addr} (h : ∀ (i : Nat) (t : Addr), ts[i]? = some t → t ≠ l) (ha : a ≠ l) : ∀ (i : Nat) (t : Addr), (ts ++ [a])[i]? = some t → t ≠ l := fun i t e => by
  rcases List.mem_append.mp (List.mem_of_getElem? e) with hm | hm
  · obtain ⟨j, hj, rfl⟩ := List.getElem_of_mem hm
    exact h j _ (List.getElem?_eq_getElem hj)
  · rw [List.mem_singleton.mp hm]; exact ha
theorem cut_sv (os : List Str) (lo hi : Option Int) : ∃ ys : List Str, cutV (sv os) lo hi = sv ys ∧ ys.Sublist os := by
  unfold cutV
  rw [sv_drop, sv_take]
  exact ⟨_, rfl, (List.take_sublist _ _).trans (List.drop_sublist _ _)⟩
theorem noT {r : Addr} : ∀ (i : Nat) (t : Addr), ([] : List Addr)[i]? = some t → t ≠ r := fun i t h => by simp at h
theorem noR {cs : List Str} : RowsOk cs [] := fun x hx => nomatch hx
def spRowsL (K : PySem.W.Frag) : Sp := fun vs H Q _ => ∃ (c o p : Addr) (cs os : List Str) (ns : List Int) (n : Int), vs = [.ref c, .ref o, .ref p, .int n] ∧ SqL K H c (sv cs) ∧ SqL K H o (sv os) ∧ SqL K H p (ns.map V.int) ∧ Pool ns ∧ ns.length = 60 ∧ 0 ≤ n ∧ n ≤ 8 ∧ cs.Nodup ∧ os.Nodup ∧ (∀ y ∈ os, y ∈ cs) ∧ cs.length ≤ 12 ∧ os.length ≤ 12 ∧
  ∀ r ts rs H', Same H H' → H' r = some (.lst (ts.map V.ref)) → Lss .lst H' ts rs → RowsOk cs rs → rs.length ≤ 8 → Q (.ref r) H'
theorem ok_rowsL (T : Txt P K mg A) : FnOk P w K mg base CX0 1 A.a_law_rows A.d_law_rows ["columns", "order", "pool", "count"] (spRowsL K) := by
  refine T.F_law_rows.ok sc_law_rows (fun vs H Q E h => ?_) (fun cdv A' outer s H vs Q E hr h => ?_)
  · obtain ⟨c, o, p, cs, os, ns, n, rfl, _⟩ := h
    rfl
  · obtain ⟨c, o, p, cs, os, ns, n, rfl, hC, hO, hS, hp, hl, n0, n1, nc, no, hsub, hcl, hol, k⟩ := h
    refine ⟨_, (pss_cons (ps_set (i := 4) sc_law_rows.nd rfl (Or.inl rfl) (pe_lst pa_nil))
      (pss_cons (ps_for PassesOwn.never rfl (pi_range1 (by rfl) T.n_range (pa_cons (pv 3) pa_nil)) (pg_name (i := 5) sc_law_rows.nd rfl (Or.inl rfl))
        (pss_cons (ps_set (i := 6) sc_law_rows.nd rfl (Or.inl rfl) (pe_callTy call_int1 (by rfl) T.n_int (by decide +kernel) (pa_cons (pe_ix ix_list (pv 2) (pe_op op_add (pe_op op_mul pe_int (pv 5)) pe_int) (fun _ _ => rfl)) pa_nil)))
      (pss_cons (ps_set (i := 7) sc_law_rows.nd rfl (Or.inl rfl) (pe_lst pa_nil))
      (pss_cons (ps_set (i := 8) sc_law_rows.nd rfl (Or.inl rfl) (pv 6))
      (pss_cons (ps_for PassesOwn.never rfl (pi_list (pv 0)) (pg_name (i := 9) sc_law_rows.nd rfl (Or.inl rfl))
        (pss_cons (ps_if (pt_cmpR op_eq (pe_op op_mod (pe_callTy call_int1 (by rfl) T.n_int (by decide +kernel) (pa_cons (pv 8) pa_nil)) pe_int) pe_int (nomark _)) (pss_one (ps_expr (pe_bm PySem.F.plainAttrs_list PySem.F.slot_list_append PySem.F.type_list_append mt_append (pv 7) (pa_cons (pv 9) pa_nil)))) pss_nil)
      (pss_one (ps_set (i := 8) sc_law_rows.nd rfl (Or.inl rfl) (pe_op op_fdiv (pv 8) pe_int)))))
      (pss_cut (ps_if (pt_cmpR op_eq (pe_op op_mod (pe_callTy call_int1 (by rfl) T.n_int (by decide +kernel) (pa_cons (pe_ix ix_list (pv 2) (pe_op op_mul pe_int (pv 5)) (fun _ _ => rfl)) pa_nil)) pe_int) pe_int (nomark _)) (pss_cons (ps_set (i := 10) sc_law_rows.nd rfl (Or.inl rfl) (pe_op op_mod (pe_callTy call_int1 (by rfl) T.n_int (by decide +kernel) (pa_cons (pv 6) pa_nil)) (pe_op op_add (pe_callB call_len_seq (by rfl) T.n_len (by decide +kernel) (pa_cons (pv 1) pa_nil)) pe_int)))
      (pss_one (ps_set (i := 7) sc_law_rows.nd rfl (Or.inl rfl) (pe_slice sl_list (pv 1) (po_some (pv 10)) (po_some (pe_op op_add (pv 10) (pe_op op_mod (pe_callTy call_int1 (by rfl) T.n_int (by decide +kernel) (pa_cons (pe_op op_fdiv (pv 6) pe_int) pa_nil)) (pe_op op_add (pe_callB call_len_seq (by rfl) T.n_len (by decide +kernel) (pa_cons (pv 1) pa_nil)) pe_int)))))))) pss_nil)
      (pss_one (ps_expr (pe_bm PySem.F.plainAttrs_list PySem.F.slot_list_append PySem.F.type_list_append mt_append (pv 4) (pa_cons (pv 7) pa_nil))))))))))
      (pss_one (ps_ret (pv 4))))), ?_⟩
    refine ⟨by show 0 ≤ sizeLine; decide, fun r hr => ?_⟩
    refine ⟨_, rfl, n, rfl, by omega, by omega, for_range (n := n.toNat) (fun j σ H3 => ∃ (ts : List Addr) (rs : List (List Str)) (u5 u6 u7 u8 u9 u10 : Option V), σ = [some (.ref c), some (.ref o), some (.ref p), some (.int n), some (.ref r), u5, u6, u7, u8, u9, u10] ∧ Same H H3 ∧ H3 r = some (.lst (ts.map V.ref)) ∧ Lss .lst H3 ts rs ∧ (∀ i t, ts[i]? = some t → t ≠ r) ∧ RowsOk cs rs ∧ rs.length = j)
      ⟨[], [], none, none, none, none, none, none, rfl, same_new hr, upd_same, Lss.nil, noT, noR, rfl⟩ ?_ ?_⟩
    · rintro j σ H3 hj ⟨ts, rs, u5, u6, u7, u8, u9, u10, rfl, s3, h3, hts, hne, hok, hlen⟩
      obtain ⟨b, _, eb⟩ := atI_ok (xs := ns) (j := 2 * (0 + (j : Int)) + 1) (by omega) (by omega)
      obtain ⟨b2, _, eb2⟩ := atI_ok (xs := ns) (j := 2 * (0 + (j : Int))) (by omega) (by omega)
      refine ⟨_, rfl, _, rfl, _, _, rfl, rfl, .inl ⟨by decide, by decide⟩, _, _, rfl, rfl, _, _, _, _, rfl, rfl, s3.seq hS, eb, .inl ⟨_, rfl, ?_⟩⟩
      refine ⟨by show 0 ≤ sizeLine; decide, fun a ha => ?_⟩
      have sa := same_new (o := .lst []) ha
      refine ⟨_, rfl, ?_⟩
      refine ⟨_, rfl, c, rfl, ⟨_, (s3.trans sa).seq hC⟩, for_it walk_list (fun i σ H4 => Same H3 H4 ∧ ∃ (ys : List Str) (lf : Int) (u9 : Option V), σ = [some (.ref c), some (.ref o), some (.ref p), some (.int n), some (.ref r), some (.int (0 + (j : Int))), some (.int b), some (.ref a), some (.int lf), u9, u10] ∧ H4 a = some (.lst (sv ys)) ∧ ys.Sublist (cs.take i))
        ⟨sa, [], b, u9, rfl, upd_same, List.nil_sublist _⟩ (fun i σ H4 _ q => (s3.trans q.1).seq hC) ?_ ?_⟩
      · rintro i x σ H40 H4 hi ⟨s4, ys, lf, u9', rfl, h4, hys⟩ ⟨rfl, hx⟩
        obtain ⟨z, hz, rfl⟩ := sv_get hx
        have hyl := hys.length_le
        rw [List.length_take] at hyl
        refine ⟨_, rfl, .inl ⟨_, rfl, _, _, rfl, rfl, by show (0 : Int) < 2; decide, rfl, _, rfl, ite2 (fun hb => ?_) (fun hb => ?_)⟩⟩
        · refine ⟨_, rfl, .inl ⟨rfl, _, SqL.of h4⟩, _, rfl, a, _, _, rfl, rfl, h4, small_int (by rw [len_sv]; omega), ?_⟩
          refine ⟨_, rfl, _, _, rfl, rfl, ⟨by decide, by decide⟩, fun c' o' e => ?_, ys ++ [z], _, _, rfl, ?_, ?_⟩
          · rw [upd_ne (ne_of_none e ha)]; exact s4 _ _ e
          · rw [sv_snoc]; exact upd_same
          · rw [take_succ hz]; exact hys.append (List.Sublist.refl _)
        · refine ⟨_, rfl, _, _, rfl, rfl, ⟨by decide, by decide⟩, s4, ys, _, _, rfl, h4, ?_⟩
          rw [take_succ hz]; exact hys.trans (List.sublist_append_left _ _)
      rintro σ H4 ⟨s4, ys, lf, u9', rfl, h4, hys⟩
      rw [len_sv, List.take_length] at hys
      refine ⟨fun σ H5 => Same H3 H5 ∧ ∃ (a2 : Addr) (ys : List Str) (lf : Int) (u9 u10 : Option V), σ = [some (.ref c), some (.ref o), some (.ref p), some (.int n), some (.ref r), some (.int (0 + (j : Int))), some (.int b), some (.ref a2), some (.int lf), u9, u10] ∧ H5 a2 = some (.lst (sv ys)) ∧ ys.Nodup ∧ (∀ y ∈ ys, y ∈ cs) ∧ a2 ≠ r, ?_, ?_⟩
      · refine ⟨_, rfl, _, rfl, _, _, rfl, rfl, .inl ⟨by decide, by decide⟩, _, _, _, _, rfl, rfl, (s3.trans s4).seq hS, eb2, .inl ⟨_, rfl, _, _, rfl, rfl, by show (0 : Int) < 3; decide, rfl, _, rfl, ite2 (fun hb => ?_) (fun hb => ?_)⟩⟩
        · have hO4 := (s3.trans s4).seq hO
          have lp : (0 : Int) < ((sv os).length : Int) + 1 := by omega
          refine ⟨_, rfl, .inl ⟨_, rfl, _, rfl, o, _, rfl, .inl hO4, _, _, rfl, rfl, _, _, rfl, rfl, lp, ?_⟩⟩
          refine ⟨_, rfl, _, rfl, _, rfl, _, rfl, _, rfl, _, _, rfl, rfl, ⟨by decide, by decide⟩, .inl ⟨_, rfl, _, rfl, o, _, rfl, .inl hO4, _, _, rfl, rfl, _, _, rfl, rfl, lp, _, _, rfl, rfl, _, rfl, o, _, rfl, hO4, fun a2 ha2 => ?_⟩⟩
          obtain ⟨zs, e, hzs⟩ := cut_sv os (some (b % (((sv os).length : Int) + 1))) (some (b % (((sv os).length : Int) + 1) + b / 13 % (((sv os).length : Int) + 1)))
          refine ⟨s4.trans (same_new ha2), a2, zs, _, _, _, rfl, by rw [upd_same]; exact congrArg (fun z => some (HO.lst z)) e, hzs.nodup no, fun y hy => hsub y (hzs.subset hy), fun z => ?_⟩
          rw [z, s4 _ _ h3] at ha2
          cases ha2
        · exact ⟨s4, a, ys, _, _, _, rfl, h4, hys.nodup nc, fun y hy => hys.subset hy, fun z => by rw [z, h3] at ha; cases ha⟩
      rintro σ H5 ⟨s5, a2, ys, lf, u9', u10', rfl, h5, nd5, sub5, ne5⟩
      have hr5 := s5 _ _ h3
      refine ⟨_, rfl, .inl ⟨rfl, _, SqL.of hr5⟩, _, rfl, r, _, _, rfl, rfl, hr5, small_int (by rw [List.length_map, hts.len]; omega), ts ++ [a2], rs ++ [ys], _, _, _, _, _, _, rfl, ?_, ?_, ?_, ne_app hne ne5, ?_, ?_⟩
      · intro c' o' e
        rw [upd_ne (ne_of_none e hr)]
        exact s5 _ _ (s3 _ _ e)
      · rw [List.map_append]; exact upd_same
      · exact ((hts.same s5).app h5).updNe (ne_app hne ne5)
      · intro x hx
        rcases List.mem_append.mp hx with hx | hx
        · exact hok x hx
        · rw [List.mem_singleton.mp hx]; exact ⟨nd5, sub5⟩
      · rw [List.length_append, hlen]; rfl
    · rintro σ H3 ⟨ts, rs, u5, u6, u7, u8, u9, u10, rfl, s3, h3, hts, hne, hok, hlen⟩
      exact ⟨_, rfl, k r ts rs H3 s3 h3 hts hok (by omega)⟩
end
end My
set_option maxRecDepth 100000
set_option maxHeartbeats 4000000
set_option exponentiation.threshold 10000
namespace My
open PySem L2
open C8 (pss_cut)
/-! ### == of lists of names -/
theorem ok_good {z : Str} (h : Good z) : PyData.canLay0 (.str z) = true := by
  unfold PyData.canLay0 PyData.strOk
  rw [Array.all_eq_true]
  intro i hi
  have := h.let_ z.cps[i] (by rw [Array.mem_toList_iff]; exact Array.getElem_mem hi)
  exact decide_eq_true (by omega)
abbrev pd (ss : List Str) : List PyData := ss.map PyData.str
theorem lay_all {ss : List Str} (h : ∀ z ∈ ss, Good z) : PyData.canLayAll0 (pd ss) = true := by
  induction ss with
  | nil => rfl
  | cons a t ih =>
    show (PyData.canLay0 (.str a) && PyData.canLayAll0 (pd t)) = true
    rw [ok_good (h a List.mem_cons_self), ih fun z hz => h z (List.mem_cons_of_mem _ hz)]; rfl
theorem depth_pd : ∀ ss : List Str, PyData.depthAll (pd ss) ≤ 1
  | [] => by simp [PyData.depthAll]
  | n :: r => by
    have e : PyData.depthAll (r.map PyData.str) ≤ 1 := depth_pd r
    simp only [List.map_cons, PyData.depthAll, PyData.depth]
    omega
theorem shaped_pd {ss : List Str} (h : ∀ z ∈ ss, Good z) : SeqAt.shaped (.list (pd ss)) = true := by
  have h1 := depth_pd ss
  show (PyData.canLay0 (.list (pd ss)) && decide (PyData.depth (.list (pd ss)) ≤ 64)) = true
  rw [Bool.and_eq_true]
  exact ⟨by simp only [PyData.canLay0]; exact lay_all h, decide_eq_true (by simp only [PyData.depth]; omega)⟩
theorem dp_pd {K : PySem.W.Frag} {H : Hp} : ∀ ss : List Str, DpAll K H (sv ss) (pd ss)
  | [] => .nil
  | s :: r => .cons (.str s) (dp_pd r)
theorem eqv_pd {ss : List Str} (h : ∀ z ∈ ss, Good z) : PyData.eqv (.list (pd ss)) (.list (pd ss)) = true := SeqAt.eqv_refl _ (by simp only [PyData.canLay0]; exact lay_all h)
/-- a list of tuples of names -/
abbrev pdd (rs : List (List Str)) : List PyData := rs.map fun r => PyData.tuple (pd r)
theorem lay_pdd {rs : List (List Str)} (h : ∀ r ∈ rs, ∀ z ∈ r, Good z) : PyData.canLayAll0 (pdd rs) = true := by
  induction rs with
  | nil => rfl
  | cons a t ih =>
    show (PyData.canLay0 (.tuple (pd a)) && PyData.canLayAll0 (pdd t)) = true
    rw [ih fun z hz => h z (List.mem_cons_of_mem _ hz), show PyData.canLay0 (.tuple (pd a)) = true by simp only [PyData.canLay0]; exact lay_all (h a List.mem_cons_self)]; rfl
theorem depth_pdd : ∀ rs : List (List Str), PyData.depthAll (pdd rs) ≤ 3
  | [] => by simp [PyData.depthAll]
  | r :: t => by
    have h1 : PyData.depthAll (t.map fun r => PyData.tuple (pd r)) ≤ 3 := depth_pdd t
    have h2 := depth_pd r
    simp only [List.map_cons, PyData.depthAll, PyData.depth]
    omega
theorem shaped_pdd {rs : List (List Str)} (h : ∀ r ∈ rs, ∀ z ∈ r, Good z) : SeqAt.shaped (.list (pdd rs)) = true := by
  have h1 := depth_pdd rs
  show (PyData.canLay0 (.list (pdd rs)) && decide (PyData.depth (.list (pdd rs)) ≤ 64)) = true
  rw [Bool.and_eq_true]
  exact ⟨by simp only [PyData.canLay0]; exact lay_pdd h, decide_eq_true (by simp only [PyData.depth]; omega)⟩
theorem eqv_pdd {rs : List (List Str)} (h : ∀ r ∈ rs, ∀ z ∈ r, Good z) : PyData.eqv (.list (pdd rs)) (.list (pdd rs)) = true := SeqAt.eqv_refl _ (by simp only [PyData.canLay0]; exact lay_pdd h)
theorem mul17 : ∀ k : Fin 17, MulOk (" " : Str) (((k.val : Nat) : Int) - 8) := by unfold MulOk; decide +kernel
theorem mul_ok {n : Int} (h0 : -8 ≤ n) (h1 : n ≤ 8) : MulOk (" " : Str) n := by
  have := mul17 ⟨(n + 8).toNat, by omega⟩
  rw [show (((n + 8).toNat : Nat) : Int) - 8 = n by omega] at this
  exact this
section
variable {P : Program} {w : World} {K : PySem.W.Frag} {mg : Str → Option Value} {base : Heap} {A : Ad}
theorem ok_lfilled (T : Txt P K mg A) : FnOk P w K mg base CX0 1 A.a_law_filled A.d_law_filled ["words", "wide"] (spFilled (SqL K)) := by
  refine T.F_law_filled.ok sc_law_filled (fun vs H Q E h => ?_) (fun cdv A' outer s H vs Q E hr h => ?_)
  · obtain ⟨l, ws, W, rfl, _⟩ := h
    rfl
  · obtain ⟨l, ws, W, rfl, h1, hw, k⟩ := h
    refine ⟨_, (pss_one (ps_ret (pe_join pe_str (pe_lc (own := [("word", 2)]) (g := gName 2) (tt := tYes) rfl sc_law_filled.nd (pi_list (pv 0)) (blkOk_by (N := ["words", "wide", "word"]) (sc := defScope s_law_filled) (by decide +kernel)) (fun _ _ _ _ _ => (pg_name (i := 2) sc_law_filled.nd rfl (Or.inl rfl))) (fun _ _ _ _ _ => pts_nil) (fun _ _ _ _ _ => (pe_op op_add_str (pv 2) (pe_op op_mulS pe_str (pe_op op_sub (pv 1) (pe_callB call_len_str (by rfl) T.n_len (by decide +kernel) (pa_cons (pv 2) pa_nil)))))))))), ?_⟩
    refine ⟨⟨_, rfl⟩, _, rfl, l, rfl, ⟨_, h1⟩, fun D hD => lc_it walk_list (PvS H D fun i => sv ((ws.map (fun x => Txt.ljust x W)).take i)) (pv0 hD rfl) (fun i H2 _ q => q.1.seq h1) ?_ ?_⟩
    · rintro i x H3 H4 hi q ⟨rfl, hx⟩
      obtain ⟨z, hz, rfl⟩ := sv_get hx
      have hzl := hw.l z (List.mem_of_getElem? hz)
      have w0 := hw.w0
      have w1 := hw.w1
      refine ⟨rfl, _, rfl, _, rfl, _, rfl, z, rfl, Nat.le_trans hzl (by decide), _, _, rfl, rfl, _, _, rfl, rfl, mul_ok (by omega) (by omega), _, _, rfl, rfl, ?_, ?_⟩
      · rw [mul_len]
        have : z.length + (W - (z.length : Int)).toNat ≤ 16 := by omega
        exact Nat.le_trans this (by decide)
      · rw [← ljust_eq]
        refine q.push hD ?_ ?_
        · show sv ((ws.map (fun x => Txt.ljust x W)).take (i + 1)) = _
          rw [take_succ (x := Txt.ljust z W) (by rw [List.getElem?_map, hz]; rfl)]
          exact List.map_append
        · show (sv ((ws.map (fun x => Txt.ljust x W)).take i)).length ≤ 1000000
          rw [len_sv, List.length_take]
          rw [len_sv] at hi
          have := hw.n
          omega
    · rintro H3 ⟨sm, h3⟩
      have h3 : H3 D = some (.lst (sv ((ws.map (fun x => Txt.ljust x W)).take (sv ws).length))) := h3
      rw [List.take_of_length_le (by rw [List.length_map, len_sv]; exact Nat.le_refl _)] at h3
      exact ⟨_, D, _, rfl, rfl, .inl (SqL.of h3), hw.fit.1, k H3 sm⟩
def spPic (K : PySem.W.Frag) : Sp := fun vs H Q _ => ∃ (c r o : Addr) (cs ns : List Str) (ts : List Addr) (rs : List (List Str)), vs = [.ref c, .ref r, .ref o] ∧ SqL K H c (sv cs) ∧ SqL K H r (ts.map V.ref) ∧ Lss .lst H ts rs ∧ SqL K H o (sv ns) ∧ Ord cs ns ∧ (∀ x ∈ cs, x ∈ ns) ∧ cs.length ≤ 12 ∧ rs.length ≤ 48 ∧
  ∀ W H', IsW ns W → Same H H' → Q (.str (pic ns rs W)) H'
theorem ok_pic (T : Txt P K mg A) : FnOk P w K mg base CX0 2 A.a_law_picture A.d_law_picture ["columns", "rows", "order"] (spPic K) := by
  have G_law_filled := ok_lfilled (P := P) (w := w) (base := base) T
  refine T.F_law_picture.ok sc_law_picture (fun vs H Q E h => ?_) (fun cdv A' outer s H vs Q E hr h => ?_)
  · obtain ⟨c, r, o, cs, ns, ts, rs, rfl, _⟩ := h
    rfl
  · obtain ⟨c, r, o, cs, ns, ts, rs, rfl, hC, hR, hts, hO, ho, hcs, hcl, hrs, k⟩ := h
    refine ⟨_, (pss_cons (ps_set (i := 3) sc_law_picture.nd rfl (Or.inl rfl) (pe_callB (cr_max rfl) (by rfl) T.n_max (by decide +kernel) (pa_cons (pe_op op_cat (pe_lst (pa_cons pe_int pa_nil)) (pe_lc (own := [("name", 9)]) (g := gName 9) (tt := tYes) rfl sc_law_picture.nd (pi_list (pv 0)) (blkOk_by (N := ["columns", "rows", "order", "wide", "lines", "row", "begun", "marks", "k", "name"]) (sc := defScope s_law_picture) (by decide +kernel)) (fun _ _ _ _ _ => (pg_name (i := 9) sc_law_picture.nd rfl (Or.inl rfl))) (fun _ _ _ _ _ => pts_nil) (fun _ _ _ _ _ => (pe_callB call_len_str (by rfl) T.n_len (by decide +kernel) (pa_cons (pv 9) pa_nil))))) pa_nil)))
      (pss_cons (ps_set (i := 4) sc_law_picture.nd rfl (Or.inl rfl) (pe_lst (pa_cons (pe_call G_law_filled (hr.mono (by decide)) rfl T.mg_law_filled T.F_law_filled.kp T.b_law_filled .nil pass0 (pa_cons (pv 2) (pa_cons (pv 3) pa_nil))) pa_nil)))
      (pss_cons (ps_for PassesOwn.never rfl (pi_list (pv 1)) (pg_name (i := 5) sc_law_picture.nd rfl (Or.inr rfl))
        (pss_cons (ps_setLc (i := 6) (own := [("k", 8)]) (g := gName 8) (tt := _) rfl sc_law_picture.nd rfl rfl (sw_true rfl rfl rfl (by decide +kernel)) (pi_range1 (by rfl) T.n_range (pa_cons (pe_callB call_len_seq (by rfl) T.n_len (by decide +kernel) (pa_cons (pv 2) pa_nil)) pa_nil)) (blkOk_by (N := ["columns", "rows", "order", "wide", "lines", "row", "begun", "marks", "k", "name"]) (sc := defScope s_law_picture) (by decide +kernel)) (fun _ _ _ _ _ => (pg_name (i := 8) sc_law_picture.nd rfl (Or.inl rfl))) (fun _ _ _ _ _ => (pts_one (PW.pt (pw_and (pt_cmpR (show OpR _ _ (rIn K false) from op_in_seq) (pe_ix (show IxR _ (rIxL K) from ix_list) (pv 2) (pv 8) (fun _ _ => rfl)) (pv 5) (by with_unfolding_all rfl)) (pw_and1 (PW.pt (pw_or (pt_cmpR op_eq (pv 8) pe_int (nomark _)) (pw_or1 (pt_cmpR (show OpR _ _ (rIn K true) from op_notIn_seq) (pe_ix (show IxR _ (rIxL K) from ix_list) (pv 2) (pe_op op_sub (pv 8) pe_int) (fun _ _ => rfl)) (pv 5) (by with_unfolding_all rfl)))))))))) (fun _ _ _ _ _ => (pv 8)))
      (pss_cons (ps_setLc (i := 7) (own := [("name", 9)]) (g := gName 9) (tt := tYes) rfl sc_law_picture.nd rfl rfl (sw_true rfl rfl rfl (by decide +kernel)) (pi_list (pv 2)) (blkOk_by (N := ["columns", "rows", "order", "wide", "lines", "row", "begun", "marks", "k", "name"]) (sc := defScope s_law_picture) (by decide +kernel)) (fun _ _ _ _ _ => (pg_name (i := 9) sc_law_picture.nd rfl (Or.inl rfl))) (fun _ _ _ _ _ => pts_nil) (fun _ _ _ _ _ => (pe_ix (show IxR _ (rIxL K) from ix_list) (pe_lst (pa_cons pe_str (pa_cons pe_str pa_nil))) (pe_callTy call_int1 (by rfl) T.n_int (by decide +kernel) (pa_cons (pe_cmpR (show OpR _ _ (rIn K false) from op_in_seq) (pv 9) (pv 5) (by with_unfolding_all rfl)) pa_nil)) (fun _ _ => rfl))))
      (pss_one (ps_expr (pe_bm PySem.F.plainAttrs_list PySem.F.slot_list_append PySem.F.type_list_append mt_append (pv 4) (pa_cons (pe_op op_add_str (pe_call G_law_filled (hr.mono (by decide)) rfl T.mg_law_filled T.F_law_filled.kp T.b_law_filled .nil pass0 (pa_cons (pv 7) (pa_cons (pv 3) pa_nil))) (pe_slice sl_str (pe_op op_add_str pe_str (pe_callTy call_str_int (by rfl) T.n_str (by decide +kernel) (pa_cons (pe_callB call_len_seq (by rfl) T.n_len (by decide +kernel) (pa_cons (pv 6) pa_nil)) pa_nil))) (po_some (pe_un un_neg pe_int)) po_none)) pa_nil)))))))
      (pss_one (ps_ret (pe_join pe_str (pv 4))))))), ?_⟩
    have hn := ho.n
    refine ⟨by show 1 ≤ sizeLine; decide, fun l1 hl1 => ?_⟩
    have s1 := same_new (o := .lst [V.int 0]) hl1
    have hC1 := s1.seq hC
    refine ⟨_, rfl, c, rfl, ⟨_, hC1⟩, fun D hD => lc_it walk_list (PvS _ D fun i => (cs.take i).map fun x => V.int (x.length : Nat)) (pv0 hD rfl) (fun i H2 _ q => q.1.seq hC1) ?_ ?_⟩
    · rintro i x H3 H4 hi q ⟨rfl, hx⟩
      obtain ⟨z, hz, rfl⟩ := sv_get hx
      have hzl := (ho.good z (List.mem_of_getElem? hz)).le
      refine ⟨rfl, _, rfl, z, rfl, Nat.le_trans hzl (by decide), q.push hD ?_ ?_⟩
      · show ((cs.take (i + 1)).map fun x => V.int (x.length : Nat)) = _
        rw [take_succ hz, List.map_append]; rfl
      · show ((cs.take i).map fun x => V.int (x.length : Nat)).length ≤ 1000000
        rw [List.length_map, List.length_take]; omega
    rintro H3 ⟨s3, h3⟩
    have h3 : H3 D = some (.lst ((cs.take (sv cs).length).map fun x => V.int (x.length : Nat))) := h3
    rw [len_sv, List.take_length] at h3
    have h31 := s3 _ _ upd_same
    refine ⟨l1, D, _, _, rfl, rfl, h31, h3, ?_, fun l3 hl3 => ?_⟩
    · rw [List.length_map]
      exact Nat.le_trans (Nat.add_le_add_left hcl 1) (by decide)
    have s4 := s1.trans (s3.trans (same_new (o := .lst ([V.int 0] ++ cs.map fun x => V.int (x.length : Nat))) hl3))
    refine ⟨l3, 0 :: cs.map fun x => ((x.length : Nat) : Int), rfl, SqL.of (by rw [upd_same, List.map_cons, List.map_map]; rfl), by rw [List.length_cons]; omega, fun W hm hb => ?_⟩
    have hW : IsW ns W := by
      have hge : ∀ x ∈ ns, (x.length : Int) ≤ W := fun x hx => hb _ (List.mem_cons_of_mem _ (List.mem_map.mpr ⟨x, ho.sub x hx, rfl⟩))
      cases ns with
      | nil =>
        refine .inl ⟨rfl, ?_⟩
        have : cs = [] := List.eq_nil_iff_forall_not_mem.mpr fun x hx => by have := hcs x hx; cases this
        rw [this] at hm
        simpa using hm
      | cons y t =>
        refine .inr ⟨?_, hge⟩
        rcases List.mem_cons.mp hm with e | e
        · have h1 := hge y List.mem_cons_self
          have h2 := (ho.good y (ho.sub y List.mem_cons_self)).pos
          omega
        · obtain ⟨x, hx, rfl⟩ := List.mem_map.mp e
          exact ⟨x, hcs x hx, rfl⟩
    have hwd := ho.wd hW
    have hO3 := (s1.trans (s3.trans (same_new (o := .lst ([V.int 0] ++ cs.map fun x => V.int (x.length : Nat))) hl3))).seq hO
    refine ⟨_, rfl, _, rfl, o, ns, W, rfl, hO3, hwd, fun H5 s5 => ⟨by show 1 ≤ sizeLine; decide, fun L hL => ?_⟩⟩
    have s05 := s4.trans s5
    have hO5 := s05.seq hO
    have hR5 := s05.seq hR
    have hts5 := hts.same s05
    have sL := same_new (o := .lst [V.str (fill ns W)]) hL
    refine ⟨_, rfl, r, rfl, ⟨_, sL.seq hR5⟩, for_it walk_list (fun i σ H6 => Same H5 H6 ∧ H6 L = some (.lst (sv (fill ns W :: (rs.take i).map (line ns W)))) ∧ ∃ u5 u6 u7 u8 u9 : Option V, σ = [some (.ref c), some (.ref r), some (.ref o), some (.int W), some (.ref L), u5, u6, u7, u8, u9])
      ⟨sL, upd_same, none, none, none, none, none, rfl⟩ (fun i σ H6 _ q => q.1.seq hR5) ?_ ?_⟩
    · rintro i x σ H60 H6 hi ⟨s6, hL6, u5, u6, u7, u8, u9, rfl⟩ ⟨rfl, hx⟩
      obtain ⟨t, hti, rfl⟩ := refs_get hx
      obtain ⟨row, hri, hto⟩ := (hts5.same s6).get hti
      have hil : i < 48 := by
        have := (List.getElem?_eq_some_iff.mp hri).1
        omega
      have hO6 := s6.seq hO5
      have fl : (flags ns row).length = ns.length := List.length_map ..
      have stepT : ∀ i, runAt (flags ns row) i = true → (((List.range (i + 1)).filter (runAt (flags ns row))).map fun n => V.int (0 + ((n : Nat) : Int))) = (((List.range i).filter (runAt (flags ns row))).map fun n => V.int (0 + ((n : Nat) : Int))) ++ [V.int (0 + ((i : Nat) : Int))] := fun i h => by
        rw [List.range_succ, List.filter_append, List.map_append, List.filter_cons_of_pos h]; rfl
      have stepF : ∀ i, runAt (flags ns row) i = false → (((List.range (i + 1)).filter (runAt (flags ns row))).map fun n => V.int (0 + ((n : Nat) : Int))) = (((List.range i).filter (runAt (flags ns row))).map fun n => V.int (0 + ((n : Nat) : Int))) := fun i h => by
        rw [List.range_succ, List.filter_append, List.map_append, List.filter_cons_of_neg (by rw [h]; decide)]; simp
      have lenF : ∀ i, i ≤ ns.length → (((List.range i).filter (runAt (flags ns row))).map fun n => V.int (0 + ((n : Nat) : Int))).length ≤ 1000000 := fun i h => by
        have := List.length_filter_le (runAt (flags ns row)) (List.range i)
        rw [List.length_range] at this
        rw [List.length_map]; omega
      have hfl : ∀ j (hj : j < ns.length), (flags ns row).getD j false = decide (ns[j] ∈ row) := fun j hj => by
        rw [List.getD_eq_getElem?_getD]; unfold flags; rw [List.getElem?_map, List.getElem?_eq_getElem hj]; rfl
      have hat : ∀ (j : Nat) (hj : j < ns.length), atI (sv ns) ((j : Nat) : Int) = some (V.str ns[j]) := fun j hj => atI_nat (by rw [List.getElem?_map, List.getElem?_eq_getElem hj]; rfl)
      refine ⟨_, rfl, o, _, rfl, .inl hO6, ?_⟩
      rw [len_sv]
      refine ⟨_, rfl, by omega, by omega, fun D2 hD2 => lc_range (n := ns.length) (PvS H6 D2 fun i => ((List.range i).filter (runAt (flags ns row))).map fun n => V.int (0 + ((n : Nat) : Int))) (pv0 hD2 rfl) ?_ ?_⟩
      · rintro j H8 hj q
        have hO8 := q.1.seq hO6
        have ht8 := SqL.of (K := K) (q.1 _ _ hto)
        have hj0 : (0 : Int) + (j : Int) = ((j : Nat) : Int) := by omega
        refine ⟨rfl, _, rfl, _, rfl, o, _, _, _, rfl, rfl, hO8, by rw [hj0]; exact hat j hj, _, rfl, t, _, rfl, .inl ht8, rfl, flat_sv _, _, rfl, ?_⟩
        rw [if_neg Bool.false_ne_true, inV_str]
        by_cases hz : ns[j] ∈ row
        · refine ifT (decide_eq_true hz) ⟨_, rfl, rfl, _, rfl, ?_⟩
          by_cases h0 : j = 0
          · subst h0
            refine itY rfl (iteT ⟨_, rfl, q.push hD2 (stepT 0 ?_) (lenF 0 (by omega))⟩)
            unfold runAt; rw [hfl 0 hj, decide_eq_true hz]; rfl
          · refine itN (fun z => h0 (by have := V.int.inj z; omega)) ?_
            have hj1 : j - 1 < ns.length := by omega
            refine ⟨_, rfl, _, rfl, _, _, rfl, rfl, o, _, _, _, rfl, rfl, hO8, by rw [show (0 : Int) + (j : Int) - 1 = ((j - 1 : Nat) : Int) by omega]; exact hat (j - 1) hj1, _, rfl, t, _, rfl, .inl ht8, rfl, flat_sv _, _, rfl, ?_⟩
            rw [if_pos (rfl : true = true), inV_str]
            have hpos : decide (0 < j) = true := decide_eq_true (by omega)
            by_cases hz1 : ns[j - 1] ∈ row
            · refine ifF (by rw [decide_eq_true hz1]; rfl) (q.skip (stepF j ?_))
              unfold runAt; rw [hfl j hj, hfl (j - 1) hj1, hpos, decide_eq_true hz1, decide_eq_true hz]; rfl
            · refine ifT (by rw [decide_eq_false hz1]; rfl) ⟨_, rfl, q.push hD2 (stepT j ?_) (lenF j (by omega))⟩
              unfold runAt; rw [hfl j hj, hfl (j - 1) hj1, decide_eq_false hz1, decide_eq_true hz]; simp
        · refine ifF (decide_eq_false hz) (iteF (q.skip (stepF j ?_)))
          unfold runAt; rw [hfl j hj, decide_eq_false hz]; rfl
      rintro H8 ⟨s8, h8⟩
      have hrun : (((List.range ns.length).filter (runAt (flags ns row))).map fun n => V.int (0 + ((n : Nat) : Int))).length = runs (flags ns row) := by
        unfold runs; rw [List.length_map, fl]
      have hr12 : runs (flags ns row) ≤ 12 := by
        have := runs_le (flags ns row)
        omega
      have s68 := s6.trans s8
      have hto8 := s8 _ _ hto
      refine ⟨_, rfl, o, rfl, ⟨_, s68.seq hO5⟩, fun D3 hD3 => lc_it walk_list (PvS H8 D3 fun k => sv ((marks ns row).take k)) (pv0 hD3 rfl) (fun k H2 _ q => q.1.seq (s68.seq hO5)) ?_ ?_⟩
      · rintro j x H9 H10 hj q ⟨rfl, hx⟩
        obtain ⟨z, hz, rfl⟩ := sv_get hx
        refine ⟨rfl, by show 2 ≤ sizeLine; decide, fun l4 hl4 => ?_⟩
        have s4' := same_new (o := .lst [V.str ".", V.str "x"]) hl4
        refine ⟨_, rfl, _, rfl, t, _, rfl, .inl (SqL.of (s4' _ _ (q.1 _ _ hto8))), rfl, flat_sv _, .inr ⟨_, rfl, ?_⟩⟩
        rw [if_neg Bool.false_ne_true, inV_str]
        have hm : (marks ns row)[j]? = some (if z ∈ row then ("x" : Str) else ".") := by unfold marks; rw [List.getElem?_map, hz]; rfl
        have hlen : (sv ((marks ns row).take j)).length ≤ 1000000 := by
          rw [len_sv, List.length_take]
          rw [len_sv] at hj
          omega
        by_cases hzc : z ∈ row
        · rw [if_pos hzc] at hm
          refine ⟨l4, _, _, _, rfl, by rw [decide_eq_true hzc], SqL.of upd_same, rfl, (q.more s4').push hD3 ?_ hlen⟩
          show sv ((marks ns row).take (j + 1)) = _
          rw [take_succ hm]; exact List.map_append
        · rw [if_neg hzc] at hm
          refine ⟨l4, _, _, _, rfl, by rw [decide_eq_false hzc], SqL.of upd_same, rfl, (q.more s4').push hD3 ?_ hlen⟩
          show sv ((marks ns row).take (j + 1)) = _
          rw [take_succ hm]; exact List.map_append
      rintro H9 ⟨s9, h9⟩
      have h9 : H9 D3 = some (.lst (sv ((marks ns row).take (sv ns).length))) := h9
      rw [List.take_of_length_le (by unfold marks; rw [List.length_map, len_sv]; exact Nat.le_refl _)] at h9
      have hL9 := s9 _ _ (s8 _ _ hL6)
      have h8 := s9 _ _ h8
      have hsm : (Str.ofString (toString ((runs (flags ns row) : Nat) : Int))).length ≤ 4 := num_small ⟨runs (flags ns row), by omega⟩
      refine ⟨_, rfl, .inl ⟨rfl, _, SqL.of hL9⟩, _, rfl, _, rfl, D3, marks ns row, W, rfl, SqL.of h9, marks_wd hwd, fun H10 s10 => ⟨_, rfl, D2, _, rfl, .inl (SqL.of (s10 _ _ h8)), ?_⟩⟩
      rw [hrun]
      refine ⟨_, rfl, small_log (by rw [Int.natAbs_natCast]; omega), _, _, rfl, rfl, Nat.le_trans (Nat.add_le_add_left hsm 4) (by decide), _, rfl, _, rfl, _, rfl, ?_, ?_⟩
      · rw [Str.length_append]
        exact Nat.le_trans (Nat.add_le_add_left hsm 4) (by decide)
      rw [cut4 hsm]
      refine ⟨_, _, rfl, rfl, ?_, L, _, _, rfl, rfl, s10 _ _ hL9, small_int (by rw [len_sv, List.length_cons, List.length_map, List.length_take]; omega), ?_, ?_, _, _, _, _, _, rfl⟩
      · have z : (line ns W row).length ≤ 300 := line_len hwd
        unfold line at z
        rw [Str.length_append] at z
        exact Nat.le_trans z (by decide)
      · intro b' o' e
        rw [upd_ne (ne_of_none e hL)]
        exact (s68.trans (s9.trans s10)) b' o' e
      · rw [upd_same, take_succ hri, List.map_append, ← List.cons_append]
        exact congrArg (fun z => some (HO.lst z)) (sv_snoc _ (line ns W row)).symm
    · rintro σ H6 ⟨s6, hL6, u5, u6, u7, u8, u9, rfl⟩
      rw [List.length_map, hts.len, List.take_length] at hL6
      have fit := fits_join (a := ("\n" : Str)) (ys := fill ns W :: rs.map (line ns W)) (B := 300) (n := 49) (fun y hy => ?_) (by rw [List.length_cons, List.length_map]; omega) (by rw [ls_nl]; decide)
      · exact ⟨⟨_, rfl⟩, _, rfl, _, L, _, rfl, rfl, .inl (SqL.of hL6), fit.1, k W H6 hW (s05.trans s6)⟩
      · rcases List.mem_cons.mp hy with rfl | hy
        · have := hwd.fit.2; omega
        · obtain ⟨row, _, rfl⟩ := List.mem_map.mp hy
          exact line_len hwd
end
end My
set_option maxRecDepth 100000
set_option maxHeartbeats 4000000
set_option exponentiation.threshold 10000
namespace My
open PySem L2
open C8 (pss_cut)
theorem dpAll_bl {K : PySem.W.Frag} {H : Hp} : ∀ bs : List Bool, DpAll K H (bs.map V.bl) (bs.map PyData.bool)
  | [] => .nil
  | b :: bs => .cons (.bl b) (dpAll_bl bs)
theorem exm_self {K : PySem.W.Frag} {C : Addr} (hb : PySem.W.subIn K (.ref C) (.type "BaseException") = some true) (hi : PySem.W.isClsIn K C = true) (ht : PySem.W.typeIn K (.ref C) = some (.type "type")) (hs : PySem.W.subIn K (.ref C) (.ref C) = some true) :
    PySem.W.exmOne K (.ref C) (.ref C) = some true := by
  unfold PySem.W.exmOne
  rw [hb, if_pos (by rfl)]
  show (if ((PySem.W.clsIn K C).isSome && PySem.W.typeIn K (.ref C) == some (.type "type")) = true then _ else _) = _
  rw [if_pos (by
    rw [ht]
    have : (PySem.W.clsIn K C).isSome = true := hi
    rw [this]; simp)]
  exact hs
section
variable {P : Program} {w : World} {K : PySem.W.Frag} {mg : Str → Option Value} {base : Heap} {A : Ad}
theorem IsW.uniq {ns : List Str} {W W' : Int} (h : IsW ns W) (h' : IsW ns W') : W = W' := by
  rcases h with ⟨e, rfl⟩ | ⟨⟨x, hx, rfl⟩, hb⟩
  · rcases h' with ⟨_, rfl⟩ | ⟨⟨y, hy, _⟩, _⟩
    · rfl
    · rw [e] at hy; cases hy
  · rcases h' with ⟨e, rfl⟩ | ⟨⟨y, hy, rfl⟩, hb'⟩
    · rw [e] at hx; cases hx
    · exact Int.le_antisymm (hb' x hx) (hb y hy)
def spGridIs (C : Addr) (K : PySem.W.Frag) : Sp := fun vs H Q _ => ∃ (p c r o : Addr) (cs ns : List Str) (ts : List Addr) (rs : List (List Str)), vs = [.ref p, .ref c, .ref r, .ref o] ∧ Tb C H p cs rs ∧ SqL K H c (sv cs) ∧ SqL K H r (ts.map V.ref) ∧ Lss .lst H ts rs ∧ SqL K H o (sv ns) ∧ Ord cs ns ∧ (∀ x ∈ cs, x ∈ ns) ∧ cs.length ≤ 12 ∧ rs.length ≤ 48 ∧
  ∀ H', Same H H' → Q (.bl true) H'
theorem ok_gridIs (T : Txt P K mg A) : FnOk P w K mg base CX0 6 A.a_law_grid_is A.d_law_grid_is ["table", "columns", "rows", "order"] (spGridIs A.C_Table K) := by
  have G_law_picture := ok_pic (P := P) (w := w) (base := base) T
  have G_grid := ok_grid (P := P) (w := w) (base := base) T
  have G_gridT := ok_gridT (P := P) (w := w) (base := base) T
  refine T.F_law_grid_is.ok sc_law_grid_is (fun vs H Q E h => ?_) (fun cdv A' outer s H vs Q E hr h => ?_)
  · obtain ⟨p, c, r, o, cs, ns, ts, rs, rfl, _⟩ := h
    rfl
  · obtain ⟨p, c, r, o, cs, ns, ts, rs, rfl, hT, hC, hR, hts, hO, ho, hcs, hcl, hrs, k⟩ := h
    refine ⟨_, (pss_cons (ps_set (i := 4) sc_law_grid_is.nd rfl (Or.inl rfl) (pe_call G_law_picture (hr.mono (by decide)) rfl T.mg_law_picture T.F_law_picture.kp T.b_law_picture .nil pass0 (pa_cons (pv 1) (pa_cons (pv 2) (pa_cons (pv 3) pa_nil)))))
      (pss_cons (ps_set (i := 5) sc_law_grid_is.nd rfl (Or.inl rfl) (pe_callTy call_list_of (by rfl) T.n_list (by decide +kernel) (pa_cons (pv 3) pa_nil)))
      (pss_cons (ps_set (i := 6) sc_law_grid_is.nd rfl (Or.inl rfl) (pe_call G_grid (hr.mono (by decide)) rfl T.mg_grid T.F_grid.kp T.b_grid .nil pass0 (pa_cons (pv 0) (pa_cons (pv 5) pa_nil))))
      (pss_cons (ps_if (PW.pt (pw_or (pt_not (pt_val (pe_callB call_isi (by rfl) T.n_isinstance (by decide +kernel) (pa_cons (pv 6) (pa_cons (pe_bltn (v := .ty "str") (by rfl) T.n_str (by decide +kernel) rfl) pa_nil))))) (pw_or (pt_cmpR op_ne (pv 6) (pv 4) (nomark _)) (pw_or1 (pt_cmpR (op_neD hr.units) (pv 5) (pv 3) (nomark _)))))) (pss_one (ps_ret pe_bl)) pss_nil)
      (pss_one (ps_ret (pe_cmpR op_eq (pe_call G_gridT (hr.mono (by decide)) rfl T.mg_grid T.F_grid.kp T.b_grid .nil pass0 (pa_cons (pv 0) (pa_cons (pe_callTy call_tuple_of (by rfl) T.n_tuple (by decide +kernel) (pa_cons (pv 3) pa_nil)) pa_nil))) (pv 4) (nomark _)))))))), ?_⟩
    refine ⟨_, rfl, _, rfl, _, rfl, c, r, o, cs, ns, ts, rs, rfl, hC, hR, hts, hO, ho, hcs, hcl, hrs, fun W H1 hW s1 => ?_⟩
    refine ⟨_, rfl, o, _, rfl, .inl (s1.seq hO), fun g hg => ?_⟩
    have s2 := s1.trans (same_new (o := .lst (sv ns)) hg)
    refine ⟨_, rfl, _, rfl, p, g, cs, rs, ns, W, rfl, hT.same s2, SqL.of upd_same, ho, hrs, hW, fun H3 s3 => ?_⟩
    have s13 := s2.trans s3
    have hg3 := s3 _ _ (upd_same (H := H1) (a := g) (o := .lst (sv ns)))
    refine ⟨_, rfl, _, _, _, _, true, rfl, .ty _, .base (.str _), kit_ty (by decide +kernel), true, rfl, ?_⟩
    refine iteF ?_
    refine ⟨_, rfl, _, rfl, rfl, _, rfl, itNe rfl ?_⟩
    have gg : ∀ z ∈ ns, Good z := fun z hz => ho.good z (ho.sub z hz)
    refine ⟨_, rfl, _, rfl, .list (pd ns), .list (pd ns), .lst (xs := sv ns) (SqL.of hg3) (dp_pd ns), .lst (xs := sv ns) (s13.seq hO) (dp_pd ns), shaped_pd gg, shaped_pd gg, ?_⟩
    refine ⟨_, rfl, ?_⟩
    refine ifF (by rw [eqv_pd gg]; rfl) ?_
    refine ⟨_, rfl, _, rfl, o, _, rfl, .inl ⟨s13.seq hO, fun t ht => ?_⟩⟩
    have s4 := s13.trans (same_new (o := .tup (sv ns)) ht)
    refine ⟨p, t, cs, rs, ns, W, rfl, hT.same s4, SqT.of upd_same, ho, hrs, hW, fun H5 s5 => ?_⟩
    refine ⟨_, rfl, rfl, ?_⟩
    rw [decide_eq_true (rfl : V.str (pic ns rs W) = V.str (pic ns rs W))]
    exact k _ (s4.trans s5)
/-- `_law_refused`: a list that is no order is told from its first fault -/
def spRefused (C : Addr) (K : PySem.W.Frag) : Sp := fun vs H Q _ => ∃ (p c o : Addr) (cs ns : List Str) (rs : List (List Str)), vs = [.ref p, .ref c, .ref o] ∧ Tb C H p cs rs ∧ SqL K H c (sv cs) ∧ SqL K H o (sv ns) ∧ ns.length ≤ 100 ∧
  ∀ H', Same H H' → Q (.bl true) H'
theorem ok_refused (T : Txt P K mg A) : FnOk P w K mg base CX0 6 A.a_law_refused A.d_law_refused ["table", "columns", "order"] (spRefused A.C_Table K) := by
  have GX_grid := ok_gridX (P := P) (w := w) (base := base) T
  refine T.F_law_refused.ok sc_law_refused (fun vs H Q E h => ?_) (fun cdv A' outer s H vs Q E hr h => ?_)
  · obtain ⟨p, c, o, cs, ns, rs, rfl, _⟩ := h
    rfl
  · obtain ⟨p, c, o, cs, ns, rs, rfl, hT, hC, hO, hn, k⟩ := h
    refine ⟨_, (pss_cons (ps_setLc (i := 3) (own := [("k", 8)]) (g := gName 8) (tt := _) rfl sc_law_refused.nd rfl rfl (sw_true rfl rfl rfl (by decide +kernel)) (pi_range1 (by rfl) T.n_range (pa_cons (pe_callB call_len_seq (by rfl) T.n_len (by decide +kernel) (pa_cons (pv 2) pa_nil)) pa_nil)) (blkOk_by (N := ["table", "columns", "order", "wrong", "found", "told", "kinds", "e", "k"]) (sc := defScope s_law_refused) (by decide +kernel)) (fun _ _ _ _ _ => (pg_name (i := 8) sc_law_refused.nd rfl (Or.inl rfl))) (fun _ _ _ _ _ => (pts_one (PW.pt (pw_or (pt_cmpR (show OpR _ _ (rIn K true) from op_notIn_seq) (pe_ix (show IxR _ (rIxL K) from ix_list) (pv 2) (pv 8) (fun _ _ => rfl)) (pv 1) (by with_unfolding_all rfl)) (pw_or1 (pt_cmpR (show OpR _ _ (rIn K false) from op_in_seq) (pe_ix (show IxR _ (rIxL K) from ix_list) (pv 2) (pv 8) (fun _ _ => rfl)) (pe_slice (show SlR _ (rSlL K) from sl_list) (pv 2) po_none (po_some (pv 8))) (by with_unfolding_all rfl))))))) (fun _ _ _ _ _ => (pv 8)))
      (pss_cut (ps_if (pt_cmpR op_lt (pe_callB call_len_seq (by rfl) T.n_len (by decide +kernel) (pa_cons (pv 2) pa_nil)) (pe_callB call_len_seq (by rfl) T.n_len (by decide +kernel) (pa_cons (pv 1) pa_nil)) (nomark _)) (pss_one (ps_expr (pe_bm PySem.F.plainAttrs_list PySem.F.slot_list_append PySem.F.type_list_append mt_append (pv 3) (pa_cons (pe_callB call_len_seq (by rfl) T.n_len (by decide +kernel) (pa_cons (pv 2) pa_nil)) pa_nil)))) pss_nil)
      (pss_cons (ps_if (pt_cmpR op_eq (pe_callB call_len_seq (by rfl) T.n_len (by decide +kernel) (pa_cons (pv 3) pa_nil)) pe_int (nomark _)) (pss_one (ps_ret pe_bl)) pss_nil)
      (pss_cons (ps_set (i := 4) sc_law_refused.nd rfl (Or.inl rfl) pe_non)
      (pss_cons (ps_set (i := 5) sc_law_refused.nd rfl (Or.inl rfl) pe_non)
      (pss_cons (ps_set (i := 6) sc_law_refused.nd rfl (Or.inl rfl) (pe_lst pa_nil))
      (pss_cons (ps_try_as (i := 7) (Wout := fun _ _ _ _ => False) rfl rfl sc_law_refused.nd rfl rfl ⟨rfl, by decide, .inl T.mg_BadOrder⟩ takes0 (fun W pn xe tk _ => (pss_one (ps_set (i := 4) sc_law_refused.nd rfl (Or.inl rfl) (pe_callS GX_grid (hr.mono (by decide)) rfl T.mg_grid T.F_grid.kp T.b_grid (fun σ => passAt tk σ) (pa_cons (pv 0) (pa_cons (pe_callTy (show CallR _ _ (rListOf K) from call_list_of) (by rfl) T.n_list (by decide +kernel) (pa_cons (pv 2) pa_nil)) pa_nil)))))) (fun a oe cls d pn hz hf => (pss_cons (ps_set (i := 5) sc_law_refused.nd rfl (Or.inl rfl) (pe_xf T.xf_BadOrder T.xn_BadOrder_index hz hf (pv 7)))
      (pss_one (ps_set (i := 6) sc_law_refused.nd rfl (Or.inl rfl) (pe_lst (pa_cons (pe_callB (call_isExD hz hf) (by rfl) T.n_isinstance (by decide +kernel) (pa_cons (pv 7) (pa_cons (pe_glob (v := .ref A.C_RowsError) rfl T.mg_RowsError rfl) pa_nil))) (pa_cons (pe_callB (call_isExD hz hf) (by rfl) T.n_isinstance (by decide +kernel) (pa_cons (pv 7) (pa_cons (pe_bltn (v := .ty "ValueError") (by rfl) T.n_ValueError (by decide +kernel) rfl) pa_nil))) (pa_cons (pe_callB (call_isExD hz hf) (by rfl) T.n_isinstance (by decide +kernel) (pa_cons (pv 7) (pa_cons (pe_glob (v := .ref A.C_Unknown) rfl T.mg_Unknown rfl) pa_nil))) (pa_cons (pe_callB (call_isExD hz hf) (by rfl) T.n_isinstance (by decide +kernel) (pa_cons (pv 7) (pa_cons (pe_glob (v := .ref A.C_Impossible) rfl T.mg_Impossible rfl) pa_nil))) pa_nil))))))))))
      (pss_cons (ps_if (PW.pt (pw_or (pt_cmpR op_notN (pv 4) pe_non (nomark _)) (pw_or1 (pt_cmpR (op_neD hr.units) (pv 6) (pe_lst (pa_cons pe_bl (pa_cons pe_bl (pa_cons pe_bl (pa_cons pe_bl pa_nil))))) (nomark _))))) (pss_one (ps_ret pe_bl)) pss_nil)
      (pss_one (ps_ret (pe_and (pe_callB call_isi (by rfl) T.n_isinstance (by decide +kernel) (pa_cons (pv 5) (pa_cons (pe_bltn (v := .ty "int") (by rfl) T.n_int (by decide +kernel) rfl) pa_nil))) (pe_and (pe_not (pe_callB call_isi (by rfl) T.n_isinstance (by decide +kernel) (pa_cons (pv 5) (pa_cons (pe_bltn (v := .ty "bool") (by rfl) T.n_bool (by decide +kernel) rfl) pa_nil)))) (pe_one (pe_cmpR op_eq (pv 5) (pe_ix ix_list (pv 3) pe_int (fun _ _ => rfl)) (nomark _))))))))))))))), ?_⟩
    refine ⟨_, rfl, o, _, rfl, .inl hO, ?_⟩
    rw [len_sv]
    refine ⟨_, rfl, by omega, by omega, fun D hD => lc_range (n := ns.length) (PvS H D fun i => ((List.range i).filter (badAt cs ns)).map fun n => V.int (0 + ((n : Nat) : Int))) (pv0 hD rfl) ?_ ?_⟩
    · rintro j H3 hj q
      have hO3 := q.1.seq hO
      have hC3 := q.1.seq hC
      have hj0 : (0 : Int) + (j : Int) = ((j : Nat) : Int) := by omega
      have hat : atI (sv ns) (0 + (j : Int)) = some (V.str ns[j]) := by rw [hj0]; exact atI_nat (by rw [List.getElem?_map, List.getElem?_eq_getElem hj]; rfl)
      have hb : badAt cs ns j = (!decide (ns[j] ∈ cs) || decide (ns[j] ∈ ns.take j)) := by
        unfold badAt; rw [List.getElem?_eq_getElem hj]
      have stepT : badAt cs ns j = true → (((List.range (j + 1)).filter (badAt cs ns)).map fun n => V.int (0 + ((n : Nat) : Int))) = (((List.range j).filter (badAt cs ns)).map fun n => V.int (0 + ((n : Nat) : Int))) ++ [V.int (0 + ((j : Nat) : Int))] := fun h => by
        rw [List.range_succ, List.filter_append, List.map_append, List.filter_cons_of_pos h]; rfl
      have stepF : badAt cs ns j = false → (((List.range (j + 1)).filter (badAt cs ns)).map fun n => V.int (0 + ((n : Nat) : Int))) = (((List.range j).filter (badAt cs ns)).map fun n => V.int (0 + ((n : Nat) : Int))) := fun h => by
        rw [List.range_succ, List.filter_append, List.map_append, List.filter_cons_of_neg (by rw [h]; decide)]; simp
      have lenF : (((List.range j).filter (badAt cs ns)).map fun n => V.int (0 + ((n : Nat) : Int))).length ≤ 1000000 := by
        have := List.length_filter_le (badAt cs ns) (List.range j)
        rw [List.length_range] at this
        rw [List.length_map]; omega
      refine ⟨rfl, _, rfl, _, rfl, o, _, _, _, rfl, rfl, hO3, hat, _, rfl, c, _, rfl, .inl hC3, rfl, flat_sv _, _, rfl, ?_⟩
      rw [if_pos (rfl : true = true), inV_str]
      by_cases hz : ns[j] ∈ cs
      · refine ifF (by rw [decide_eq_true hz]; rfl) ?_
        refine ⟨_, rfl, _, rfl, o, _, _, _, rfl, rfl, hO3, hat, _, rfl, _, rfl, _, rfl, o, _, rfl, hO3, fun t ht => ?_⟩
        have qt := q.more (same_new (o := .lst (cutV (sv ns) none (some (0 + (j : Int))))) ht)
        have ht' : upd H3 t (.lst (cutV (sv ns) none (some (0 + (j : Int))))) t = some (.lst (sv (ns.take j))) := by
          rw [upd_same, hj0, cut_take (by rw [len_sv]; omega), sv_take]
        refine ⟨t, _, rfl, .inl (SqL.of ht'), rfl, flat_sv _, _, rfl, ?_⟩
        rw [if_neg Bool.false_ne_true, inV_str]
        by_cases hm : ns[j] ∈ ns.take j
        · exact ifT (decide_eq_true hm) ⟨_, rfl, qt.push hD (stepT (by rw [hb, decide_eq_true hm, Bool.or_true])) lenF⟩
        · exact ifF (decide_eq_false hm) (qt.skip (stepF (by rw [hb, decide_eq_false hm, decide_eq_true hz]; rfl)))
      · exact ifT (by rw [decide_eq_false hz]; rfl) ⟨_, rfl, q.push hD (stepT (by rw [hb, decide_eq_false hz]; rfl)) lenF⟩
    rintro H3 ⟨s3, h3⟩
    refine ⟨fun σ H4 => σ = [some (.ref p), some (.ref c), some (.ref o), some (.ref D), none, none, none, none, none] ∧ Same H H4 ∧ H4 D = some (.lst ((wrongs cs ns).map fun n => V.int (n : Nat))), ?_, ?_⟩
    · have hw : ((List.range ns.length).filter (badAt cs ns)).map (fun n => V.int (0 + ((n : Nat) : Int))) = ((List.range ns.length).filter (badAt cs ns)).map fun n => V.int (n : Nat) :=
        List.map_congr_left fun n _ => by rw [Int.zero_add]
      have h3 : H3 D = some (.lst (((List.range ns.length).filter (badAt cs ns)).map fun n => V.int (n : Nat))) := by rw [← hw]; exact h3
      refine ⟨_, rfl, o, _, rfl, .inl (s3.seq hO), _, rfl, c, _, rfl, .inl (s3.seq hC), _, _, rfl, rfl, _, rfl, ?_⟩
      refine ite2 (fun hlt => ?_) (fun hlt => ?_)
      · have hlt : ns.length < cs.length := by have := of_decide_eq_true hlt; rw [len_sv, len_sv] at this; omega
        refine ⟨_, rfl, .inl ⟨rfl, _, SqL.of h3⟩, _, rfl, o, _, rfl, .inl (s3.seq hO), D, _, _, rfl, rfl, h3, small_int ?_, rfl, ?_, ?_⟩
        · have := List.length_filter_le (badAt cs ns) (List.range ns.length)
          rw [List.length_range] at this
          rw [List.length_map]; omega
        · intro b' o' e
          rw [upd_ne (ne_of_none e hD)]
          exact s3 _ _ e
        · rw [upd_same, len_sv]
          unfold wrongs
          rw [if_pos hlt, List.map_append]; rfl
      · refine ⟨rfl, s3, ?_⟩
        rw [h3]
        unfold wrongs
        rw [if_neg (fun z => hlt (decide_eq_true (by rw [len_sv, len_sv]; omega))), List.append_nil]
    rintro σ H4 ⟨rfl, s4, h4⟩
    have hwh := wrongs_head cs ns
    refine ⟨_, rfl, D, _, rfl, .inl (SqL.of h4), rfl, _, rfl, ?_⟩
    cases hw : wrongs cs ns with
    | nil => exact itY rfl (k _ s4)
    | cons w0 wt =>
    rw [hw] at h4 hwh
    refine itN (fun z => by have := V.int.inj z; rw [List.map_cons, List.length_cons] at this; omega) ?_
    refine ⟨by show 0 ≤ sizeLine; decide, fun l hl => ?_⟩
    have s5 := s4.trans (same_new (o := .lst []) hl)
    have h5 := (same_new (o := .lst []) hl) _ _ h4
    refine ⟨_, rfl, _, rfl, o, _, rfl, .inl (s5.seq hO), fun g hg => ⟨p, g, cs, rs, ns, w0, rfl, hT.same (s5.trans (same_new hg)), SqL.of upd_same, by omega, hwh.symm, fun d H6 s6 hd => ?_⟩⟩
    refine ⟨true, exm_self T.bp_BadOrder T.ic_BadOrder T.tp_BadOrder T.ss_BadOrder, fun _ e he => ?_, fun q => nomatch q⟩
    have hne : A.C_BadOrder ≠ A.C_Unknown ∧ A.C_BadOrder ≠ A.C_Impossible := by
      refine ⟨fun e => ?_, fun e => ?_⟩
      · have z := T.su_BadOrder_Unknown
        rw [← e, T.ss_BadOrder] at z; cases z
      · have z := T.su_BadOrder_Impossible
        rw [← e, T.ss_BadOrder] at z; cases z
    have k1 : PySem.W.kitOne K (.ref A.C_BadOrder) (.ref A.C_RowsError) = some true := kit_own T.ic_RowsError T.tp_RowsError T.su_BadOrder_RowsError (.inr rfl)
    have k2 : PySem.W.kitOne K (.ref A.C_BadOrder) (.type "ValueError") = some true := kit_ownT (by decide +kernel) T.sv_BadOrder
    have k3 : PySem.W.kitOne K (.ref A.C_BadOrder) (.ref A.C_Unknown) = some false := kit_own T.ic_Unknown T.tp_Unknown T.su_BadOrder_Unknown (.inl hne.1)
    have k4 : PySem.W.kitOne K (.ref A.C_BadOrder) (.ref A.C_Impossible) = some false := kit_own T.ic_Impossible T.tp_Impossible T.su_BadOrder_Impossible (.inl hne.2)
    have s16 : Same H H6 := s5.trans ((same_new hg).trans s6)
    have h6 : H6 D = some (.lst ((w0 :: wt).map fun n => V.int (n : Nat))) := s6 _ _ (same_new hg _ _ h5)
    refine ⟨_, rfl, rfl, rfl, d, _, _, rfl, hd, rfl, ?_⟩
    refine ⟨_, rfl, _, _, _, rfl, rfl, hd, T.ec_BadOrder, _, _, true, rfl, fun _ h => h, k1, ?_⟩
    refine ⟨_, rfl, _, _, _, rfl, rfl, hd, T.ec_BadOrder, _, _, true, rfl, fun _ h => h, k2, ?_⟩
    refine ⟨_, rfl, _, _, _, rfl, rfl, hd, T.ec_BadOrder, _, _, false, rfl, fun _ h => h, k3, ?_⟩
    refine ⟨_, rfl, _, _, _, rfl, rfl, hd, T.ec_BadOrder, _, _, false, rfl, fun _ h => h, k4, ?_⟩
    refine ⟨by show 4 ≤ sizeLine; decide, fun l1 hl1 => ?_⟩
    refine ⟨_, rfl, rfl, _, rfl, itNe rfl ?_⟩
    refine ⟨_, rfl, by show 4 ≤ sizeLine; decide, fun l2 hl2 => ?_⟩
    have h12 := same_new (o := .lst [V.bl true, .bl true, .bl false, .bl false]) hl2 _ _ (upd_same (H := H6) (a := l1) (o := .lst [V.bl true, .bl true, .bl false, .bl false]))
    refine ⟨.list ([true, true, false, false].map PyData.bool), .list ([true, true, false, false].map PyData.bool), .lst (xs := [true, true, false, false].map V.bl) (SqL.of h12) (dpAll_bl _), .lst (xs := [true, true, false, false].map V.bl) (SqL.of upd_same) (dpAll_bl _), by decide +kernel, by decide +kernel, ?_⟩
    refine ⟨_, rfl, ifF (by decide +kernel) ?_⟩
    have s7 : Same H6 (upd (upd H6 l1 (.lst [V.bl true, .bl true, .bl false, .bl false])) l2 (.lst [V.bl true, .bl true, .bl false, .bl false])) := (same_new hl1).trans (same_new hl2)
    refine ⟨_, rfl, _, _, _, _, true, rfl, .ty _, .base (.int _), kit_ty (by decide +kernel), true, rfl, ?_⟩
    refine iteT ?_
    refine ⟨_, rfl, _, _, _, _, false, rfl, .ty _, .base (.int _), kit_ty (by decide +kernel), false, rfl, true, rfl, iteT ?_⟩
    have at0 : atI ((w0 :: wt).map fun n => V.int (n : Nat)) 0 = some (V.int (w0 : Nat)) := by
      show atI _ ((0 : Nat) : Int) = _
      exact atI_nat rfl
    refine ⟨_, rfl, _, rfl, D, _, _, _, rfl, rfl, SqL.of (s7 _ _ h6), at0, rfl, ?_⟩
    rw [decide_eq_true (rfl : V.int (w0 : Nat) = V.int (w0 : Nat))]
    exact k _ (s16.trans s7)
end
end My
set_option maxRecDepth 100000
set_option maxHeartbeats 4000000
set_option exponentiation.threshold 10000
namespace My
open PySem L2
open C8 (pss_cut)
theorem nd_len : ∀ (x cs : List Str), x.Nodup → (∀ y ∈ x, y ∈ cs) → x.length ≤ cs.length
  | [], _, _, _ => Nat.zero_le _
  | a :: t, cs, nd, h => by
    have nd := List.nodup_cons.mp nd
    have hp := List.perm_cons_erase (h a List.mem_cons_self)
    have := nd_len t (cs.erase a) nd.2 fun y hy => by
      have hy' := h y (List.mem_cons_of_mem _ hy)
      exact (List.mem_erase_of_ne (fun e => nd.1 (by rw [← e]; exact hy))).mpr hy'
    have e := hp.length_eq
    rw [List.length_cons] at e ⊢
    omega
theorem at_sv {ss : List Str} {j : Int} (h0 : 0 ≤ j) (h1 : j < ss.length) : ∃ z, z ∈ ss ∧ atI (sv ss) j = some (V.str z) := by
  obtain ⟨n, rfl⟩ := Int.eq_ofNat_of_zero_le h0
  have hn : n < ss.length := by omega
  exact ⟨ss[n], List.getElem_mem hn, atI_nat (by rw [List.getElem?_map, List.getElem?_eq_getElem hn]; rfl)⟩
theorem RowsOk.st {cs : List Str} {rs : List (List Str)} (h : RowsOk cs rs) (hc : cs.length ≤ 12) : ∀ x ∈ rs, stray cs x = none ∧ x.length ≤ 1000 := fun x hx => by
  obtain ⟨a, b⟩ := h x hx
  have := nd_len x cs a b
  exact ⟨stray_none_iff.mpr ⟨b, a⟩, by omega⟩
theorem ord_perm {cs ms : List Str} (p : ms.Perm cs) (g : ∀ z ∈ cs, Good z) (nd : cs.Nodup) (hl : cs.length ≤ 12) : Ord cs ms :=
  ⟨fun x hx => p.mem_iff.mp hx, p.nodup_iff.mpr nd, by rw [p.length_eq]; exact Nat.le_refl _, by rw [p.length_eq]; exact hl, g⟩
theorem sv3 (a b : List Str) (x : Str) : sv a ++ [V.str x] ++ sv b = sv (a ++ [x] ++ b) := by simp [sv]
theorem dp_pdd {K : PySem.W.Frag} {H : Hp} : ∀ {ts : List Addr} {rs : List (List Str)}, Lss .tup H ts rs → DpAll K H (ts.map V.ref) (pdd rs)
  | [], [], _ => .nil
  | [], _ :: _, h => nomatch h.len
  | _ :: _, [], h => nomatch h.len
  | t :: ts, r :: rs, h => .cons (.tup (xs := sv r) (SqT.of (h.at_ 0 t r rfl rfl)) (dp_pd r)) (dp_pdd ⟨Nat.succ.inj h.len, fun i u x a b => h.at_ (i + 1) u x a b⟩)
theorem good_x : Good "x" := ⟨by decide, by decide, by unfold Letters; decide⟩
abbrev nsc_law : Scope := { kind := ScopeKind.function, names := [(".0", NameKind.local), ("row", NameKind.cell), ("tuple", NameKind.globalImplicit), ("columns", NameKind.cell)], isGenerator := false, isCoroutine := false }
/-- law's: a list of at most 63 ints is handed in, True comes out -/
def spLaw (K : PySem.W.Frag) : Sp := fun vs H Q _ => ∃ (a : Addr) (ns : List Int), vs = [.ref a] ∧ SqL K H a (ns.map V.int) ∧ ns.length ≤ 63 ∧ ∀ H', Q (.bl true) H'
section
variable {P : Program} {w : World} {K : PySem.W.Frag} {mg : Str → Option Value} {base : Heap} {A : Ad}
theorem ok_law (T : Txt P K mg A) : FnOk P w K mg base CX0 12 A.a_law A.d_law ["script"] (spLaw K) := by
  have G_law_pool := ok_pool (P := P) (w := w) (base := base) T
  have G_law_names := ok_names (P := P) (w := w) (base := base) T
  have G_law_sequence := ok_seq (P := P) (w := w) (base := base) T
  have G_law_rows := ok_rowsL (P := P) (w := w) (base := base) T
  have G_Table_init := ok_table (P := P) (w := w) (base := base) T
  have G_law_grid_is := ok_gridIs (P := P) (w := w) (base := base) T
  have G_law_new := ok_new (P := P) (w := w) (base := base) T
  have G_law_refused := ok_refused (P := P) (w := w) (base := base) T
  have G_Table_iter := ok_iter (P := P) (w := w) (base := base) T
  have G_Table_len := ok_len (P := P) (w := w) (base := base) T
  refine T.F_law.ok sc_law (fun vs H Q E h => ?_) (fun cdv A' outer s H vs Q E hr h => ?_)
  · obtain ⟨a, ns, rfl, _⟩ := h
    rfl
  · obtain ⟨sa, ns, rfl, hS, hlen, k⟩ := h
    refine ⟨_, (pss_cons (ps_set (i := 1) sc_law.nd rfl (Or.inl rfl) (pe_call G_law_pool (hr.mono (by decide)) rfl T.mg_law_pool T.F_law_pool.kp T.b_law_pool .nil pass0 (pa_cons (pv 0) (pa_cons pe_int (pa_cons pe_int pa_nil)))))
      (pss_cons (ps_set (i := 2) sc_law.nd rfl (Or.inl rfl) (pe_call G_law_pool (hr.mono (by decide)) rfl T.mg_law_pool T.F_law_pool.kp T.b_law_pool .nil pass0 (pa_cons (pv 0) (pa_cons pe_int (pa_cons pe_int pa_nil)))))
      (pss_cons (ps_set (i := 3) sc_law.nd rfl (Or.inr rfl) (pe_call G_law_names (hr.mono (by decide)) rfl T.mg_law_names T.F_law_names.kp T.b_law_names .nil pass0 (pa_cons (pv 1) pa_nil)))
      (pss_cons (ps_set (i := 4) sc_law.nd rfl (Or.inl rfl) (pe_call G_law_sequence (hr.mono (by decide)) rfl T.mg_law_sequence T.F_law_sequence.kp T.b_law_sequence .nil pass0 (pa_cons (pv 3) (pa_cons (pe_op op_add (pe_op op_mul (pe_ix ix_list (pv 1) pe_int (fun _ _ => rfl)) pe_int) (pe_ix ix_list (pv 1) pe_int (fun _ _ => rfl))) pa_nil))))
      (pss_cons (ps_set (i := 5) sc_law.nd rfl (Or.inl rfl) (pe_call G_law_rows (hr.mono (by decide)) rfl T.mg_law_rows T.F_law_rows.kp T.b_law_rows .nil pass0 (pa_cons (pv 3) (pa_cons (pv 4) (pa_cons (pe_call G_law_pool (hr.mono (by decide)) rfl T.mg_law_pool T.F_law_pool.kp T.b_law_pool .nil pass0 (pa_cons (pv 0) (pa_cons pe_int (pa_cons pe_int pa_nil)))) (pa_cons (pe_op op_mod (pe_callTy call_int1 (by rfl) T.n_int (by decide +kernel) (pa_cons (pe_ix ix_list (pv 1) pe_int (fun _ _ => rfl)) pa_nil)) pe_int) pa_nil))))))
      (pss_cut (ps_if (pt_cmpR op_eq (pe_op op_mod (pe_callTy call_int1 (by rfl) T.n_int (by decide +kernel) (pa_cons (pe_ix ix_list (pv 1) pe_int (fun _ _ => rfl)) pa_nil)) pe_int) pe_int (nomark _)) (pss_cons (ps_set (i := 6) sc_law.nd rfl (Or.inr rfl) (pe_op op_cat (pv 5) (pe_lst (pa_cons (pe_slice sl_list (pv 3) po_none (po_some pe_int)) pa_nil))))
      (pss_one (ps_setLc (i := 5) (own := [("k", 9)]) (g := gName 9) (tt := tYes) rfl sc_law.nd rfl rfl (sw_true rfl rfl rfl (by decide +kernel)) (pi_range1 (by rfl) T.n_range (pa_cons pe_int pa_nil)) (blkOk_by (N := ["script", "pool", "other", "columns", "order", "rows", "base", "table", "stranger", "k", "j", "more", "row", "name"]) (sc := defScope s_law) (by decide +kernel)) (fun _ _ _ _ _ => (pg_name (i := 9) sc_law.nd rfl (Or.inl rfl))) (fun _ _ _ _ _ => pts_nil) (fun _ _ _ _ _ => (pe_callTy (show CallR _ _ (rListOf K) from call_list_of) (by rfl) T.n_list (by decide +kernel) (pa_cons (pe_ix (show IxR _ (rIxL K) from ix_list) (pv 6) (pe_op op_mod (pe_callTy call_int1 (by rfl) T.n_int (by decide +kernel) (pa_cons (pv 9) pa_nil)) (pe_callB (show CallR _ _ (rLen2 K) from call_len_seq) (by rfl) T.n_len (by decide +kernel) (pa_cons (pv 6) pa_nil))) (fun _ _ => rfl)) pa_nil)))))) pss_nil)
      (pss_cons (ps_set (i := 7) sc_law.nd rfl (Or.inl rfl) (pe_make T.mk_Table G_Table_init (hr.mono (by decide)) rfl T.mg_Table T.bi .nil pass0 (pa_cons (pe_callTy call_list_of (by rfl) T.n_list (by decide +kernel) (pa_cons (pv 3) pa_nil)) (pa_cons (pe_lc (own := [("row", 12)]) (g := gName 12) (tt := tYes) rfl sc_law.nd (pi_list (pv 5)) (blkOk_by (N := ["script", "pool", "other", "columns", "order", "rows", "base", "table", "stranger", "k", "j", "more", "row", "name"]) (sc := defScope s_law) (by decide +kernel)) (fun _ _ _ _ _ => (pg_name (i := 12) sc_law.nd rfl (Or.inl rfl))) (fun _ _ _ _ _ => pts_nil) (fun _ _ _ _ _ => (pe_callTy (show CallR _ _ (rListOf K) from call_list_of) (by rfl) T.n_list (by decide +kernel) (pa_cons (pv 12) pa_nil)))) pa_nil))))
      (pss_cons (ps_if (PW.pt (pw_or (pt_not (pt_val (pe_call G_law_grid_is (hr.mono (by decide)) rfl T.mg_law_grid_is T.F_law_grid_is.kp T.b_law_grid_is .nil pass0 (pa_cons (pv 7) (pa_cons (pv 3) (pa_cons (pv 5) (pa_cons (pv 4) pa_nil))))))) (pw_or1 (pt_not (pt_val (pe_call G_law_grid_is (hr.mono (by decide)) rfl T.mg_law_grid_is T.F_law_grid_is.kp T.b_law_grid_is .nil pass0 (pa_cons (pv 7) (pa_cons (pv 3) (pa_cons (pv 5) (pa_cons (pe_revL (pv 4)) pa_nil)))))))))) (pss_one (ps_ret pe_bl)) pss_nil)
      (pss_cons (ps_set (i := 8) sc_law.nd rfl (Or.inl rfl) (pe_ix ix_list (pe_lst (pa_cons (pe_call G_law_new (hr.mono (by decide)) rfl T.mg_law_new T.F_law_new.kp T.b_law_new .nil pass0 (pa_cons (pv 3) (pa_cons pe_str pa_nil))) (pa_cons pe_str (pa_cons pe_str pa_nil)))) (pe_op op_mod (pe_callTy call_int1 (by rfl) T.n_int (by decide +kernel) (pa_cons (pe_ix ix_list (pv 2) pe_int (fun _ _ => rfl)) pa_nil)) pe_int) (fun _ _ => rfl)))
      (pss_cons (ps_set (i := 9) sc_law.nd rfl (Or.inl rfl) (pe_op op_mod (pe_callTy call_int1 (by rfl) T.n_int (by decide +kernel) (pa_cons (pe_ix ix_list (pv 2) pe_int (fun _ _ => rfl)) pa_nil)) (pe_op op_add (pe_callB call_len_seq (by rfl) T.n_len (by decide +kernel) (pa_cons (pv 4) pa_nil)) pe_int)))
      (pss_cons (ps_set (i := 10) sc_law.nd rfl (Or.inl rfl) (pe_op op_mod (pe_callTy call_int1 (by rfl) T.n_int (by decide +kernel) (pa_cons (pe_ix ix_list (pv 2) pe_int (fun _ _ => rfl)) pa_nil)) (pe_op op_add (pe_callB call_len_seq (by rfl) T.n_len (by decide +kernel) (pa_cons (pv 4) pa_nil)) pe_int)))
      (pss_cons (ps_set (i := 11) sc_law.nd rfl (Or.inl rfl) (pe_ix ix_list (pe_op op_cat (pv 4) (pe_lst (pa_cons (pv 8) pa_nil))) (pv 10) (fun _ _ => rfl)))
      (pss_cons (ps_if (pt_not (pt_val (pe_call G_law_refused (hr.mono (by decide)) rfl T.mg_law_refused T.F_law_refused.kp T.b_law_refused .nil pass0 (pa_cons (pv 7) (pa_cons (pv 3) (pa_cons (pe_op op_cat (pe_slice sl_list (pv 4) po_none (po_some (pv 9))) (pe_slice sl_list (pv 4) (po_some (pe_op op_add (pv 9) pe_int)) po_none)) pa_nil)))))) (pss_one (ps_ret pe_bl)) pss_nil)
      (pss_cons (ps_if (pt_not (pt_val (pe_call G_law_refused (hr.mono (by decide)) rfl T.mg_law_refused T.F_law_refused.kp T.b_law_refused .nil pass0 (pa_cons (pv 7) (pa_cons (pv 3) (pa_cons (pe_op op_cat (pe_op op_cat (pe_slice sl_list (pv 4) po_none (po_some (pv 9))) (pe_lst (pa_cons (pv 11) pa_nil))) (pe_slice sl_list (pv 4) (po_some (pv 9)) po_none)) pa_nil)))))) (pss_one (ps_ret pe_bl)) pss_nil)
      (pss_cons (ps_if (pt_not (pt_val (pe_call G_law_refused (hr.mono (by decide)) rfl T.mg_law_refused T.F_law_refused.kp T.b_law_refused .nil pass0 (pa_cons (pv 7) (pa_cons (pv 3) (pa_cons (pe_op op_cat (pe_op op_cat (pe_slice sl_list (pv 4) po_none (po_some (pv 9))) (pe_lst (pa_cons (pv 8) pa_nil))) (pe_slice sl_list (pv 4) (po_some (pe_op op_add (pv 9) pe_int)) po_none)) pa_nil)))))) (pss_one (ps_ret pe_bl)) pss_nil)
      (pss_cons (ps_if (pt_not (pt_val (pe_call G_law_refused (hr.mono (by decide)) rfl T.mg_law_refused T.F_law_refused.kp T.b_law_refused .nil pass0 (pa_cons (pv 7) (pa_cons (pv 3) (pa_cons (pe_op op_cat (pe_op op_cat (pe_slice sl_list (pv 4) po_none (po_some (pv 9))) (pe_lst (pa_cons (pv 11) pa_nil))) (pe_slice sl_list (pv 4) (po_some (pe_op op_add (pv 9) pe_int)) po_none)) pa_nil)))))) (pss_one (ps_ret pe_bl)) pss_nil)
      (pss_cons (ps_if (PW.pt (pw_or (pt_not (pt_val (pe_call G_law_grid_is (hr.mono (by decide)) rfl T.mg_law_grid_is T.F_law_grid_is.kp T.b_law_grid_is .nil pass0 (pa_cons (pv 7) (pa_cons (pv 3) (pa_cons (pv 5) (pa_cons (pv 4) pa_nil))))))) (pw_or1 (pt_not (pt_val (pe_call G_law_grid_is (hr.mono (by decide)) rfl T.mg_law_grid_is T.F_law_grid_is.kp T.b_law_grid_is .nil pass0 (pa_cons (pv 7) (pa_cons (pv 3) (pa_cons (pv 5) (pa_cons (pv 3) pa_nil)))))))))) (pss_one (ps_ret pe_bl)) pss_nil)
      (pss_one (ps_ret (pe_cmpR (op_eqD hr.units) (pe_callTy (call_listIt (EL := E0) ⟨T.m_Table_iter.at_, T.m_Table_iter.fn, T.m_Table_len.at_, T.m_Table_len.fn⟩ G_Table_iter T.b_Table_iter pass0 G_Table_len T.b_Table_len (hr.mono (by decide))) (by rfl) T.n_list (by decide +kernel) (pa_cons (pv 7) pa_nil)) (pe_lc (own := [("row", 12)]) (g := gName 12) (tt := tYes) rfl sc_law.nd (pi_list (pv 5)) (blkOk_by (N := ["script", "pool", "other", "columns", "order", "rows", "base", "table", "stranger", "k", "j", "more", "row", "name"]) (sc := defScope s_law) (by decide +kernel)) (fun _ _ _ _ _ => (pg_name (i := 12) sc_law.nd rfl (Or.inr rfl))) (fun _ _ _ _ _ => pts_nil) (fun _ _ _ _ _ => (pe_callTy (show CallR _ _ (rTupOf K) from call_tuple_of) (by rfl) T.n_tuple (by decide +kernel) (pa_cons (pe_lc (own := [("name", 13)]) (g := gName 13) (tt := _) rfl sc_law.nd (show PI _ _ _ (iList K _) from (pi_list (pv 3))) (blkOk_by (N := ["script", "pool", "other", "columns", "order", "rows", "base", "table", "stranger", "k", "j", "more", "row", "name"]) (sc := nsc_law) (by decide +kernel)) (fun _ _ _ _ _ => (pg_name (i := 13) sc_law.nd rfl (Or.inl rfl))) (fun _ _ _ _ _ => (pts_one (pt_cmpR (show OpR _ _ (rIn K false) from op_in_seq) (pv 13) (pv 12) (by with_unfolding_all rfl)))) (fun _ _ _ _ _ => (pv 13))) pa_nil)))) (nomark _))))))))))))))))))))), ?_⟩
    refine ⟨_, rfl, sa, ns, 0, 60, rfl, hS, by decide, by decide, by decide, fun p ps H1 s1 h1 l1 P1 => ?_⟩
    refine ⟨_, rfl, sa, ns, 2, 60, rfl, s1.seq hS, by decide, by decide, by decide, fun q qs H2 s2 h2 l2 P2 => ?_⟩
    have h60 : ps.length = 60 := by omega
    have q60 : qs.length = 60 := by omega
    refine ⟨_, rfl, p, ps, rfl, s2.seq (SqL.of h1), P1, h60, fun c cs H3 s3 h3 g nd cl => ?_⟩
    obtain ⟨x39, m39, e39⟩ := atI_ok (xs := ps) (j := 39) (by decide) (by omega)
    obtain ⟨x40, m40, e40⟩ := atI_ok (xs := ps) (j := 40) (by decide) (by omega)
    obtain ⟨x41, m41, e41⟩ := atI_ok (xs := ps) (j := 41) (by decide) (by omega)
    obtain ⟨x42, m42, e42⟩ := atI_ok (xs := ps) (j := 42) (by decide) (by omega)
    have b39 := P1 _ m39
    have hP3 : SqL K H3 p (ps.map V.int) := s3.seq (s2.seq (SqL.of h1))
    refine ⟨_, rfl, _, rfl, _, _, _, _, rfl, rfl, hP3, e39, _, _, rfl, rfl, .inr ⟨by decide, by decide⟩, _, rfl, _, _, _, _, rfl, rfl, hP3, e40, _, _, rfl, rfl, ?_⟩
    refine ⟨c, cs, _, rfl, SqL.of h3, by omega, fun o ms H4 s4 h4 hperm => ?_⟩
    have ho : Ord cs ms := ord_perm hperm g nd cl
    have hsub : ∀ x ∈ cs, x ∈ ms := fun x hx => hperm.mem_iff.mpr hx
    have s34 := s3.trans s4
    have s14 := (s1.trans s2).trans s34
    refine ⟨_, rfl, _, rfl, _, rfl, sa, ns, 1, 60, rfl, s14.seq hS, by decide, by decide, by decide, fun t1 ts1 H5 s5 h5 l5 P5 => ?_⟩
    have hP5 : SqL K H5 p (ps.map V.int) := (s4.trans s5).seq hP3
    have m0 := Int.emod_nonneg x41 (show (9 : Int) ≠ 0 by decide)
    have m1 := Int.emod_lt_of_pos x41 (show (0 : Int) < 9 by decide)
    refine ⟨_, rfl, _, _, _, _, rfl, rfl, hP5, e41, .inl ⟨_, rfl, _, _, rfl, rfl, by show (0 : Int) < 9; decide, ?_⟩⟩
    refine ⟨c, o, t1, cs, ms, ts1, x41 % 9, rfl, (s4.trans s5).seq (SqL.of h3), s5.seq (SqL.of h4), SqL.of h5, P5, by omega, m0, by omega, nd, ho.nd, ho.sub, cl, ho.n, fun r ts rs H6 s6 h6 hts hok hrl => ?_⟩
    have s36 := s4.trans (s5.trans s6)
    have hP : SqL K H6 p (ps.map V.int) := s36.seq hP3
    have hC : SqL K H6 c (sv cs) := s36.seq (SqL.of h3)
    have hO : H6 o = some (.lst (sv ms)) := s6 _ _ (s5 _ _ h4)
    have hOth : SqL K H6 q (qs.map V.int) := (s3.trans s36).seq (SqL.of h2)
    clear hP3 hP5 h5 P5 l5 h4 h3 s36 s14 s34 s6 s5 s4 s3 s2 s1 h1 h2 l1 l2 hS m0 m1
    refine ⟨fun σ H7 => ∃ (r : Addr) (ts : List Addr) (rs : List (List Str)) (u6 : Option V), σ = [some (.ref sa), some (.ref p), some (.ref q), some (.ref c), some (.ref o), some (.ref r), u6, none, none, none, none, none, none, none] ∧ Same H6 H7 ∧ H7 r = some (.lst (ts.map V.ref)) ∧ Lss .lst H7 ts rs ∧ RowsOk cs rs ∧ rs.length ≤ 48, ?_, ?_⟩
    · refine ⟨_, rfl, _, _, _, _, rfl, rfl, hP, e42, .inl ⟨_, rfl, _, _, rfl, rfl, by show (0 : Int) < 16; decide, rfl, _, rfl, ite2 (fun hb => ?_) (fun hb => ?_)⟩⟩
      · obtain ⟨ys, eys, hys⟩ := cut_sv cs none (some 2)
        refine ⟨_, rfl, _, rfl, _, rfl, c, _, rfl, hC, fun t ht => ?_⟩
        rw [eys]
        have st := same_new (o := .lst (sv ys)) ht
        refine ⟨by show 1 ≤ sizeLine; decide, fun l1 hl1 => ?_⟩
        have st1 := st.trans (same_new (o := .lst [V.ref t]) hl1)
        refine ⟨r, l1, _, _, rfl, rfl, st1 _ _ h6, upd_same, ?_, fun b hb' => ?_⟩
        · rw [List.length_map, hts.len]
          exact Nat.le_trans (Nat.add_le_add_right hrl 1) (by decide)
        have st2 := st1.trans (same_new (o := .lst (ts.map V.ref ++ [V.ref t])) hb')
        have hts2 := (hts.same st2).app (t := t) (r := ys) ((same_new (o := .lst (ts.map V.ref ++ [V.ref t])) hb') _ _ (same_new (o := .lst [V.ref t]) hl1 _ _ upd_same))
        have hok2 : RowsOk cs (rs ++ [ys]) := fun x hx => by
          rcases List.mem_append.mp hx with hx | hx
          · exact hok x hx
          · rw [List.mem_singleton.mp hx]; exact ⟨hys.nodup nd, fun y hy => hys.subset hy⟩
        generalize hX : upd (upd (upd H6 t _) l1 _) b _ = H7 at st2 hts2
        have hB : H7 b = some (.lst ((ts ++ [t]).map V.ref)) := by rw [← hX, List.map_append]; exact upd_same
        clear hX st st1 hl1 hb' ht
        refine ⟨48, rfl, by decide, by decide, fun D hD => lc_range (n := 48) (fun i H8 => Same H7 H8 ∧ ∃ (us : List Addr) (ss : List (List Str)), H8 D = some (.lst (us.map V.ref)) ∧ Lss .lst H8 us ss ∧ (∀ i t, us[i]? = some t → t ≠ D) ∧ RowsOk cs ss ∧ ss.length = i)
          ⟨same_new hD, [], [], upd_same, Lss.nil, noT, noR, rfl⟩ ?_ ?_⟩
        · rintro j H8 hj ⟨s8, us, ss, hd8, hl8, hne, hok8, hlen8⟩
          have hB8 : SqL K H8 b ((ts ++ [t]).map V.ref) := SqL.of (s8 _ _ hB)
          have hbl : ((ts ++ [t]).map V.ref).length = rs.length + 1 := by rw [List.length_map, List.length_append, hts.len]; rfl
          have hp0 : (0 : Int) < (((ts ++ [t]).map V.ref).length : Int) := by omega
          have i0 := Int.emod_nonneg (0 + (j : Int)) (show ((((ts ++ [t]).map V.ref).length : Nat) : Int) ≠ 0 by omega)
          have i1 := Int.emod_lt_of_pos (0 + (j : Int)) hp0
          obtain ⟨n, en⟩ := Int.eq_ofNat_of_zero_le i0
          have hn : n < (ts ++ [t]).length := by rw [List.length_map] at i1 en; omega
          have hat : atI ((ts ++ [t]).map V.ref) ((0 + (j : Int)) % ((((ts ++ [t]).map V.ref).length : Nat) : Int)) = some (V.ref (ts ++ [t])[n]) := by
            rw [en]; exact atI_nat (by rw [List.getElem?_map, List.getElem?_eq_getElem hn]; rfl)
          obtain ⟨y, hy, ho8⟩ := (hts2.same s8).get (List.getElem?_eq_getElem hn)
          refine ⟨rfl, _, rfl, _, rfl, .inl ⟨_, rfl, _, rfl, b, _, rfl, .inl hB8, _, _, rfl, rfl, hp0, b, _, _, _, rfl, rfl, hB8, hat, _, _, rfl, .inl (SqL.of ho8), fun a ha => ?_⟩⟩
          have hda : D ≠ a := ne_of_none hd8 ha
          refine ⟨us.map V.ref, by rw [upd_ne hda]; exact hd8, small_int (by rw [List.length_map, hl8.len, hlen8]; omega), ?_, us ++ [a], ss ++ [y], ?_, ?_, ne_app hne hda.symm, ?_, ?_⟩
          · intro c' o' e
            rw [upd_ne (ne_of_none e hD)]
            exact (s8.trans (same_new ha)) _ _ e
          · rw [List.map_append]; exact upd_same
          · exact ((hl8.same (same_new ha)).app upd_same).updNe (ne_app hne hda.symm)
          · intro x hx
            rcases List.mem_append.mp hx with hx | hx
            · exact hok8 x hx
            · rw [List.mem_singleton.mp hx]; exact hok2 y (List.mem_of_getElem? hy)
          · rw [List.length_append, hlen8]; rfl
        · rintro H8 ⟨s8, us, ss, hd8, hl8, hne, hok8, hlen8⟩
          exact ⟨D, us, ss, _, rfl, st2.trans s8, hd8, hl8, hok8, by omega⟩
      · exact ⟨r, ts, rs, _, rfl, Same.refl _, h6, hts, hok, by omega⟩
    rintro σ H7 ⟨r', ts', rs', u6, rfl, s7, h7, hts7, hok7, hrl7⟩
    have hC := s7.seq hC
    have hO := s7 _ _ hO
    have hOth := s7.seq hOth
    have hP := s7.seq hP
    clear s7 hts h6 hok e39 e40 e41 e42 m39 m40 m41 m42 b39
    refine ⟨_, rfl, c, _, rfl, .inl hC, fun l hl => ?_⟩
    have sl := same_new (o := .lst (sv cs)) hl
    refine ⟨_, rfl, r', rfl, ⟨_, sl.seq (SqL.of h7)⟩, fun D hD => lc_it walk_list (fun i H8 => Same (upd H7 l (.lst (sv cs))) H8 ∧ ∃ us : List Addr, H8 D = some (.lst (us.map V.ref)) ∧ Lss .lst H8 us (rs'.take i) ∧ (∀ i t, us[i]? = some t → t ≠ D))
      ⟨same_new hD, [], upd_same, Lss.nil, noT⟩ (fun i H8 _ q => (sl.trans q.1).seq (SqL.of h7)) ?_ ?_⟩
    · rintro i x H80 H8 hi ⟨s8, us, hd8, hl8, hne⟩ ⟨rfl, hx⟩
      obtain ⟨b, hb, rfl⟩ := refs_get hx
      obtain ⟨y, hy, ho8⟩ := ((hts7.same sl).same s8).get hb
      have hil := (List.getElem?_eq_some_iff.mp hy).1
      refine ⟨rfl, _, rfl, b, _, rfl, .inl (SqL.of ho8), fun a ha => ?_⟩
      have hda : D ≠ a := ne_of_none hd8 ha
      refine ⟨us.map V.ref, by rw [upd_ne hda]; exact hd8, small_int (by rw [List.length_map, hl8.len, List.length_take]; omega), ?_, us ++ [a], ?_, ?_, ne_app hne hda.symm⟩
      · intro c' o' e
        rw [upd_ne (ne_of_none e hD)]
        exact (s8.trans (same_new ha)) _ _ e
      · rw [List.map_append]; exact upd_same
      · rw [take_succ hy]
        exact ((hl8.same (same_new ha)).app upd_same).updNe (ne_app hne hda.symm)
    rintro H8 ⟨s8, us, hd8, hl8, hne⟩
    rw [List.length_map, hts7.len, List.take_length] at hl8
    have hl80 := s8 _ _ (upd_same (H := H7) (a := l) (o := .lst (sv cs)))
    refine fun t dx nx ndx nex => ?_
    have st : Same H8 (upd (upd H8 dx (HO.own t)) t (HO.ins A.C_Table dx [])) := (same_new ndx).trans (same_new (by rw [upd_ne nex.symm]; exact nx))
    refine ⟨t, l, D, dx, cs, us, rs', rfl, upd_same, st.seq (SqL.of hl80), st.seq (SqL.of hd8), hl8.same st, g, nd, cl, hrl7, hok7.st cl, fun H9 sm9 tb => ⟨rfl, ?_⟩⟩
    have s79 : Same H7 H9 := fun b o' e => by
      have e8 := s8 _ _ (sl _ _ e)
      exact sm9 b o' (ne_of_none e8 nx) (st _ _ e8)
    have hC := s79.seq hC
    have hO := s79 _ _ hO
    have hOth := s79.seq hOth
    have hR := s79 _ _ h7
    have hts := hts7.same s79
    clear s79 sm9 st nex ndx nx hl8 hne hd8 hl80 s8 hD sl hl h7 hts7 hP
    refine ⟨_, rfl, _, rfl, _, rfl, _, rfl, t, c, r', o, cs, ms, ts', rs', rfl, tb, hC, SqL.of hR, hts, SqL.of hO, ho, hsub, cl, hrl7, fun H10 s10 => ⟨_, rfl, iteF ?_⟩⟩
    have hrev : ms.reverse.Perm cs := (List.reverse_perm ms).trans hperm
    refine ⟨_, rfl, _, rfl, _, rfl, _, rfl, o, _, rfl, s10.seq (SqL.of hO), fun l2 hl2 => ?_⟩
    have s10 := s10.trans (same_new (o := .lst (sv ms).reverse) hl2)
    have hl2' : SqL K (upd H10 l2 (.lst (sv ms).reverse)) l2 (sv ms.reverse) := SqL.of (by rw [upd_same]; exact congrArg (fun z => some (HO.lst z)) List.map_reverse.symm)
    refine ⟨t, c, r', l2, cs, ms.reverse, ts', rs', rfl, tb.same s10, s10.seq hC, s10.seq (SqL.of hR), hts.same s10, hl2', ord_perm hrev g nd cl, fun x hx => hrev.mem_iff.mpr hx, cl, hrl7, fun H11 s11 => ⟨_, rfl, iteF ?_⟩⟩
    have s11 := s10.trans s11
    clear s10 hl2 hl2'
    -- the stranger
    obtain ⟨y0, _, f0⟩ := atI_ok (xs := qs) (j := 0) (by decide) (by omega)
    obtain ⟨y1, _, f1⟩ := atI_ok (xs := qs) (j := 1) (by decide) (by omega)
    obtain ⟨y2, _, f2⟩ := atI_ok (xs := qs) (j := 2) (by decide) (by omega)
    refine ⟨_, rfl, c, cs, _, rfl, s11.seq hC, by omega, good_x, fun z' gz nz => ⟨by show 3 ≤ sizeLine; decide, fun lt hlt => ?_⟩⟩
    have s12 := s11.trans (same_new (o := .lst [V.str z', V.str "", V.str "X y"]) hlt)
    obtain ⟨sg, _, et⟩ := at_sv (ss := [z', "", "X y"]) (j := y0 % 3) (Int.emod_nonneg _ (by decide)) (Int.emod_lt_of_pos _ (by decide))
    have et : atI [V.str z', V.str "", V.str "X y"] (y0 % 3) = some (V.str sg) := et
    refine ⟨_, rfl, _, _, _, _, rfl, rfl, s12.seq hOth, f0, .inl ⟨_, rfl, _, _, rfl, rfl, by show (0 : Int) < 3; decide, _, _, _, _, rfl, rfl, SqL.of upd_same, et, ?_⟩⟩
    generalize upd H11 lt _ = H12 at s12 ⊢
    have lp : (0 : Int) < ((sv ms).length : Int) + 1 := by omega
    refine ⟨_, rfl, _, _, _, _, rfl, rfl, s12.seq hOth, f1, .inl ⟨_, rfl, _, rfl, o, _, rfl, .inl (s12.seq (SqL.of hO)), _, _, rfl, rfl, _, _, rfl, rfl, lp, ?_⟩⟩
    refine ⟨_, rfl, _, _, _, _, rfl, rfl, s12.seq hOth, f2, .inl ⟨_, rfl, _, rfl, o, _, rfl, .inl (s12.seq (SqL.of hO)), _, _, rfl, rfl, _, _, rfl, rfl, lp, ?_⟩⟩
    -- more
    refine ⟨_, rfl, _, rfl, by show 1 ≤ sizeLine; decide, fun lm hlm => ?_⟩
    have hO12 := s12 _ _ hO
    have hml : ms.length ≤ 12 := ho.n
    refine ⟨o, lm, _, _, rfl, rfl, same_new hlm _ _ hO12, upd_same, ?_, fun lo hlo => ?_⟩
    · rw [len_sv]; exact Nat.le_trans (Nat.add_le_add_right hml 1) (by decide)
    have s13 := s12.trans ((same_new (o := .lst [V.str sg]) hlm).trans (same_new (o := .lst (sv ms ++ [V.str sg])) hlo))
    obtain ⟨mo, _, em⟩ := at_sv (ss := ms ++ [sg]) (j := y2 % (((sv ms).length : Int) + 1)) (Int.emod_nonneg _ (by omega)) (by rw [List.length_append]; have := Int.emod_lt_of_pos y2 lp; rw [len_sv] at this ⊢; exact this)
    rw [show sv (ms ++ [sg]) = sv ms ++ [V.str sg] from List.map_append] at em
    refine ⟨_, rfl, lo, _, _, _, rfl, rfl, SqL.of upd_same, em, ?_⟩
    generalize upd (upd H12 lm _) lo _ = H13 at s13 ⊢
    clear hlm hlo hO12 s12 em et f0 f1 f2
    have cl1 : ∀ lo hi, ∃ ys, cutV (sv ms) lo hi = sv ys ∧ ys.length ≤ 12 := fun lo hi => let ⟨ys, e, s⟩ := cut_sv ms lo hi; ⟨ys, e, Nat.le_trans s.length_le hml⟩
    obtain ⟨ya, ea, la⟩ := cl1 none (some (y1 % (((sv ms).length : Int) + 1)))
    obtain ⟨yb, eb, lb⟩ := cl1 (some (y1 % (((sv ms).length : Int) + 1) + 1)) none
    obtain ⟨yc, ec, lc⟩ := cl1 (some (y1 % (((sv ms).length : Int) + 1))) none
    -- refused, one left out
    refine ⟨_, rfl, _, rfl, _, rfl, _, rfl, _, rfl, o, _, rfl, s13.seq (SqL.of hO), fun a ha => ?_⟩
    rw [ea]
    have sa1 := s13.trans (same_new (o := .lst (sv ya)) ha)
    refine ⟨_, rfl, _, rfl, _, _, rfl, rfl, _, rfl, o, _, rfl, sa1.seq (SqL.of hO), fun b hb => ?_⟩
    rw [eb]
    have nab : a ≠ b := ne_of_none upd_same hb
    have sb1 := sa1.trans (same_new (o := .lst (sv yb)) hb)
    refine ⟨a, b, _, _, rfl, rfl, by rw [upd_ne nab]; exact upd_same, upd_same, by rw [len_sv, len_sv]; exact Nat.le_trans (Nat.add_le_add la lb) (by decide), fun d hd => ?_⟩
    have s2 := sb1.trans (same_new (o := .lst (sv ya ++ sv yb)) hd)
    refine ⟨t, c, d, cs, ya ++ yb, rs', rfl, tb.same s2, s2.seq hC, SqL.of (by rw [upd_same]; exact congrArg (fun z => some (HO.lst z)) List.map_append.symm), by rw [List.length_append]; omega, fun H14 s14 => ⟨_, rfl, iteF ?_⟩⟩
    have s14 := s2.trans s14
    clear ha hb hd nab sa1 sb1 s2
    -- refused, one put in
    refine ⟨_, rfl, _, rfl, _, rfl, _, rfl, _, rfl, o, _, rfl, s14.seq (SqL.of hO), fun a ha => ?_⟩
    rw [ea]
    refine ⟨_, rfl, by show 1 ≤ sizeLine; decide, fun m hm => ?_⟩
    have nam : a ≠ m := ne_of_none upd_same hm
    refine ⟨a, m, _, _, rfl, rfl, by rw [upd_ne nam]; exact upd_same, upd_same, by rw [len_sv]; exact Nat.le_trans (Nat.add_le_add_right la 1) (by decide), fun e he => ?_⟩
    have s0 := s14.trans ((same_new (o := .lst (sv ya)) ha).trans ((same_new (o := .lst [V.str mo]) hm).trans (same_new (o := .lst (sv ya ++ [V.str mo])) he)))
    refine ⟨_, rfl, _, rfl, _, rfl, o, _, rfl, s0.seq (SqL.of hO), fun b hb => ?_⟩
    rw [ec]
    have neb : e ≠ b := ne_of_none upd_same hb
    have s1 := s0.trans (same_new (o := .lst (sv yc)) hb)
    refine ⟨e, b, _, _, rfl, rfl, by rw [upd_ne neb]; exact upd_same, upd_same, by rw [List.length_append, len_sv, len_sv]; exact Nat.le_trans (Nat.add_le_add (Nat.add_le_add_right la 1) lc) (by decide), fun d hd => ?_⟩
    have s2 := s1.trans (same_new (o := .lst (sv ya ++ [V.str mo] ++ sv yc)) hd)
    refine ⟨t, c, d, cs, ya ++ [mo] ++ yc, rs', rfl, tb.same s2, s2.seq hC, SqL.of (by rw [upd_same]; exact congrArg (fun z => some (HO.lst z)) (sv3 _ _ _)), by rw [List.length_append, List.length_append]; show ya.length + 1 + yc.length ≤ 100; omega, fun H15 s15 => ⟨_, rfl, iteF ?_⟩⟩
    have s15 := s2.trans s15
    clear ha hm he hb hd nam neb s0 s1 s2
    -- refused, a stranger
    refine ⟨_, rfl, _, rfl, _, rfl, _, rfl, _, rfl, o, _, rfl, s15.seq (SqL.of hO), fun a ha => ?_⟩
    rw [ea]
    refine ⟨_, rfl, by show 1 ≤ sizeLine; decide, fun m hm => ?_⟩
    have nam : a ≠ m := ne_of_none upd_same hm
    refine ⟨a, m, _, _, rfl, rfl, by rw [upd_ne nam]; exact upd_same, upd_same, by rw [len_sv]; exact Nat.le_trans (Nat.add_le_add_right la 1) (by decide), fun e he => ?_⟩
    have s0 := s15.trans ((same_new (o := .lst (sv ya)) ha).trans ((same_new (o := .lst [V.str sg]) hm).trans (same_new (o := .lst (sv ya ++ [V.str sg])) he)))
    refine ⟨_, rfl, _, rfl, _, _, rfl, rfl, _, rfl, o, _, rfl, s0.seq (SqL.of hO), fun b hb => ?_⟩
    rw [eb]
    have neb : e ≠ b := ne_of_none upd_same hb
    have s1 := s0.trans (same_new (o := .lst (sv yb)) hb)
    refine ⟨e, b, _, _, rfl, rfl, by rw [upd_ne neb]; exact upd_same, upd_same, by rw [List.length_append, len_sv, len_sv]; exact Nat.le_trans (Nat.add_le_add (Nat.add_le_add_right la 1) lb) (by decide), fun d hd => ?_⟩
    have s2 := s1.trans (same_new (o := .lst (sv ya ++ [V.str sg] ++ sv yb)) hd)
    refine ⟨t, c, d, cs, ya ++ [sg] ++ yb, rs', rfl, tb.same s2, s2.seq hC, SqL.of (by rw [upd_same]; exact congrArg (fun z => some (HO.lst z)) (sv3 _ _ _)), by rw [List.length_append, List.length_append]; show ya.length + 1 + yb.length ≤ 100; omega, fun H16 s16 => ⟨_, rfl, iteF ?_⟩⟩
    have s16 := s2.trans s16
    clear ha hm he hb hd nam neb s0 s1 s2
    -- refused, one twice
    refine ⟨_, rfl, _, rfl, _, rfl, _, rfl, _, rfl, o, _, rfl, s16.seq (SqL.of hO), fun a ha => ?_⟩
    rw [ea]
    refine ⟨_, rfl, by show 1 ≤ sizeLine; decide, fun m hm => ?_⟩
    have nam : a ≠ m := ne_of_none upd_same hm
    refine ⟨a, m, _, _, rfl, rfl, by rw [upd_ne nam]; exact upd_same, upd_same, by rw [len_sv]; exact Nat.le_trans (Nat.add_le_add_right la 1) (by decide), fun e he => ?_⟩
    have s0 := s16.trans ((same_new (o := .lst (sv ya)) ha).trans ((same_new (o := .lst [V.str mo]) hm).trans (same_new (o := .lst (sv ya ++ [V.str mo])) he)))
    refine ⟨_, rfl, _, rfl, _, _, rfl, rfl, _, rfl, o, _, rfl, s0.seq (SqL.of hO), fun b hb => ?_⟩
    rw [eb]
    have neb : e ≠ b := ne_of_none upd_same hb
    have s1 := s0.trans (same_new (o := .lst (sv yb)) hb)
    refine ⟨e, b, _, _, rfl, rfl, by rw [upd_ne neb]; exact upd_same, upd_same, by rw [List.length_append, len_sv, len_sv]; exact Nat.le_trans (Nat.add_le_add (Nat.add_le_add_right la 1) lb) (by decide), fun d hd => ?_⟩
    have s2 := s1.trans (same_new (o := .lst (sv ya ++ [V.str mo] ++ sv yb)) hd)
    refine ⟨t, c, d, cs, ya ++ [mo] ++ yb, rs', rfl, tb.same s2, s2.seq hC, SqL.of (by rw [upd_same]; exact congrArg (fun z => some (HO.lst z)) (sv3 _ _ _)), by rw [List.length_append, List.length_append]; show ya.length + 1 + yb.length ≤ 100; omega, fun H17 s17 => ⟨_, rfl, iteF ?_⟩⟩
    have s17 := s2.trans s17
    clear ha hm he hb hd nam neb s0 s1 s2
    -- the pictures again
    refine ⟨_, rfl, _, rfl, _, rfl, _, rfl, t, c, r', o, cs, ms, ts', rs', rfl, tb.same s17, s17.seq hC, s17.seq (SqL.of hR), hts.same s17, s17.seq (SqL.of hO), ho, hsub, cl, hrl7, fun H18 s18 => ⟨_, rfl, iteF ?_⟩⟩
    have s18 := s17.trans s18
    refine ⟨_, rfl, _, rfl, _, rfl, _, rfl, t, c, r', c, cs, cs, ts', rs', rfl, tb.same s18, s18.seq hC, s18.seq (SqL.of hR), hts.same s18, s18.seq hC, ord_perm (List.Perm.refl _) g nd cl, fun x hx => hx, cl, hrl7, fun H19 s19 => ⟨_, rfl, iteF ?_⟩⟩
    have s19 := s18.trans s19
    clear s11 s13 s14 s15 s16 s17 s18
    have tb := tb.same s19
    have hC := s19.seq hC
    have hR := s19 _ _ hR
    have hts := hts.same s19
    obtain ⟨dt, ct, rt, us2, hp, hc, hr3, hls⟩ := id tb
    refine ⟨_, rfl, t, dt, _, rfl, hp, fun q9 hq9 hne9 => ?_⟩
    have sq := same_new (o := .lst []) hq9
    refine ⟨t, dt, ct, rt, rfl, sq _ _ hp, ⟨_, sq _ _ hr3⟩, fun it hit => ?_⟩
    have sit := same_new (o := TitO rt it 0) hit
    have lu : (us2.map V.ref).length ≤ 48 := by rw [List.length_map, hls.len, List.length_map]; exact hrl7
    refine ⟨it, rt, us2.map V.ref, rfl, upd_same, sit _ _ (sq _ _ hr3), sit _ _ upd_same, sit _ _ (sq _ _ hp), small_int (by omega), ⟨t, cs, rs', rfl, tb.same (sq.trans sit), ⟨rfl, _, rfl, by omega, by omega⟩⟩, fun H20 h20 hq20 => ?_⟩
    have s20 : Same H19 H20 := fun b o' e => by
      have e1 := sq _ _ e
      rw [h20 b (ne_of_none e1 hit) (ne_of_none e hq9)]
      exact sit _ _ e1
    have hls20 := hls.same s20
    have hC := s20.seq hC
    have hR := s20 _ _ hR
    have hts := hts.same s20
    have hgood : ∀ r ∈ rs'.map (canon cs), ∀ z ∈ r, Good z := fun r hr z hz => by
      obtain ⟨x, _, rfl⟩ := List.mem_map.mp hr
      exact g z (List.mem_filter.mp hz).1
    clear h20 sit hit sq hq9 hls tb hp hc hr3 s19 hOth hO
    refine ⟨_, rfl, r', rfl, ⟨_, SqL.of hR⟩, fun D hD => lc_it walk_list (fun i H8 => Same H20 H8 ∧ ∃ us : List Addr, H8 D = some (.lst (us.map V.ref)) ∧ Lss .tup H8 us ((rs'.take i).map (canon cs))) ⟨same_new hD, [], upd_same, Lss.nil⟩ (fun i H8 _ q => q.1.seq (SqL.of hR)) ?_ ?_⟩
    · rintro i x H80 H8 hi ⟨s8, us, hd8, hl8⟩ ⟨rfl, hx⟩
      obtain ⟨b, hb, rfl⟩ := refs_get hx
      obtain ⟨y, hy, ho8⟩ := (hts.same s8).get hb
      have hil := (List.getElem?_eq_some_iff.mp hy).1
      have hC8 := s8.seq hC
      have stepT : ∀ i z, cs[i]? = some z → z ∈ y → sv (canon (cs.take (i + 1)) y) = sv (canon (cs.take i) y) ++ [V.str z] := fun i z hz hm => by
        rw [take_succ hz, canon_T hm]; exact List.map_append
      have stepF : ∀ i z, cs[i]? = some z → z ∉ y → sv (canon (cs.take (i + 1)) y) = sv (canon (cs.take i) y) := fun i z hz hm => by
        rw [take_succ hz, canon_F hm]
      refine ⟨rfl, _, rfl, c, rfl, ⟨_, hC8⟩, fun D2 hD2 => lc_it walk_list (PvS H8 D2 fun i => sv (canon (cs.take i) y)) (pv0 hD2 rfl) (fun i H2 _ q => q.1.seq hC8) ?_ ?_⟩
      · rintro j x H30 H3 hj q ⟨rfl, hx⟩
        obtain ⟨z, hz, rfl⟩ := sv_get hx
        refine ⟨rfl, _, rfl, _, rfl, b, _, rfl, .inl (SqL.of (q.1 _ _ ho8)), rfl, flat_sv _, _, rfl, ?_⟩
        rw [if_neg Bool.false_ne_true, inV_str]
        have hlen : (sv (canon (cs.take j) y)).length ≤ 1000000 := by
          have := List.length_filter_le (fun x => decide (x ∈ y)) (cs.take j)
          rw [List.length_take] at this
          rw [len_sv]; unfold canon; omega
        by_cases hm : z ∈ y
        · exact ifT (decide_eq_true hm) ⟨_, rfl, q.push hD2 (stepT j z hz hm) hlen⟩
        · exact ifF (decide_eq_false hm) (q.skip (stepF j z hz hm))
      rintro H3 ⟨sm, h3⟩
      have h3 : H3 D2 = some (.lst (sv (canon (cs.take (sv cs).length) y))) := h3
      rw [len_sv, List.take_length] at h3
      refine ⟨D2, _, rfl, .inl ⟨SqL.of h3, fun tt htt => ?_⟩⟩
      have sm2 := sm.trans (same_new (o := .tup (sv (canon cs y))) htt)
      have hd6 := sm2 _ _ hd8
      refine ⟨_, hd6, small_int (by rw [List.length_map, hl8.len, List.length_map, List.length_take]; omega), ?_, us ++ [tt], ?_, ?_⟩
      · intro c' o' e
        rw [upd_ne (ne_of_none e hD)]
        exact sm2 _ _ (s8 _ _ e)
      · rw [List.map_append]; exact upd_same
      · rw [take_succ hy, List.map_append]
        exact ((hl8.same sm2).app upd_same).updT hd6 (fun xs z => nomatch z)
    rintro H8 ⟨s8, us, hd8, hl8⟩
    rw [List.length_map, hts.len, List.take_length] at hl8
    have hq8 := s8 _ _ hq20
    refine ⟨.list (pdd (rs'.map (canon cs))), .list (pdd (rs'.map (canon cs))), .lst (SqL.of hq8) (dp_pdd (hls20.same s8)), .lst (SqL.of hd8) (dp_pdd hl8), shaped_pdd hgood, shaped_pdd hgood, ?_⟩
    rw [eqv_pdd hgood]
    exact k _
end
end My
set_option maxRecDepth 100000
set_option maxHeartbeats 4000000
set_option exponentiation.threshold 10000
namespace My
open PySem L2
theorem all_mk {l : PySem.W.OpenLaw} {w : World} {K : PySem.W.Frag} {h : Heap} {mg : Str → Option Value} {fa C_Table C_RowsError C_Unknown C_Impossible C_BadOrder a_BadOrder_init a_is_name a_first_bad_name a_first_stray a_order_fault a_count_runs a_runs_of a_check_order a_check_columns a_check_rows a_Table_in_order a_Table_init a_Table_len a_Table_iter a_filled a_grid a_law_cell a_law_pool a_law_word a_law_new a_law_sequence a_law_names a_law_rows a_law_filled a_law_picture a_law_grid_is a_law_refused a_law e_Table_init : Addr} (X : K.In h) (G : h.Ns mainGlobals mg) (hfa : mg "law" = some (.ref fa))
    {cd_BadOrder : ClassData}
    {oc_BadOrder_init kV_BadOrder_init dc_BadOrder_init pm_BadOrder_init ct_BadOrder_init oa_BadOrder_init ob_BadOrder_init : Value} {od_BadOrder_init an_BadOrder_init da_BadOrder_init db_BadOrder_init : Option Addr} {sl_BadOrder_init la_BadOrder_init lb_BadOrder_init : Array (Option Value)} {cda_BadOrder_init cc_BadOrder_init : Addr} {vs_BadOrder_init : Array Value} {fl_BadOrder_init : Str} {tf_BadOrder_init : Tok}
    {tk_LONGEST_NAME : Tok}
    {tk_Table_MOST_COLUMNS : Tok}
    {tk_Table_MOST_ROWS : Tok}
    {oc_is_name kV_is_name dc_is_name pm_is_name cd_is_name ct_is_name : Value} {od_is_name an_is_name : Option Addr} {sl_is_name : Array (Option Value)}
    {oc_first_bad_name kV_first_bad_name dc_first_bad_name pm_first_bad_name cd_first_bad_name ct_first_bad_name : Value} {od_first_bad_name an_first_bad_name : Option Addr} {sl_first_bad_name : Array (Option Value)}
    {oc_first_stray kV_first_stray dc_first_stray pm_first_stray cd_first_stray ct_first_stray : Value} {od_first_stray an_first_stray : Option Addr} {sl_first_stray : Array (Option Value)}
    {oc_order_fault kV_order_fault dc_order_fault pm_order_fault cd_order_fault ct_order_fault : Value} {od_order_fault an_order_fault : Option Addr} {sl_order_fault : Array (Option Value)}
    {oc_count_runs kV_count_runs dc_count_runs pm_count_runs cd_count_runs ct_count_runs : Value} {od_count_runs an_count_runs : Option Addr} {sl_count_runs : Array (Option Value)}
    {oc_runs_of kV_runs_of dc_runs_of pm_runs_of cd_runs_of ct_runs_of : Value} {od_runs_of an_runs_of : Option Addr} {sl_runs_of : Array (Option Value)}
    {oc_check_order kV_check_order dc_check_order pm_check_order cd_check_order ct_check_order : Value} {od_check_order an_check_order : Option Addr} {sl_check_order : Array (Option Value)}
    {oc_check_columns kV_check_columns dc_check_columns pm_check_columns cd_check_columns ct_check_columns : Value} {od_check_columns an_check_columns : Option Addr} {sl_check_columns : Array (Option Value)}
    {oc_check_rows kV_check_rows dc_check_rows pm_check_rows cd_check_rows ct_check_rows : Value} {od_check_rows an_check_rows : Option Addr} {sl_check_rows : Array (Option Value)}
    {oc_Table_in_order kV_Table_in_order dc_Table_in_order pm_Table_in_order cd_Table_in_order ct_Table_in_order : Value} {od_Table_in_order an_Table_in_order : Option Addr} {sl_Table_in_order : Array (Option Value)}
    {oc_Table_init kV_Table_init dc_Table_init pm_Table_init cd_Table_init ct_Table_init : Value} {od_Table_init an_Table_init : Option Addr} {sl_Table_init : Array (Option Value)}
    {TD_Table_init : Addr} {to_Table_init : Option Addr} {tn_Table_init : Nat} {ts_Table_init : Array (Option Value)}
    {oc_Table_len kV_Table_len dc_Table_len pm_Table_len cd_Table_len ct_Table_len : Value} {od_Table_len an_Table_len : Option Addr} {sl_Table_len : Array (Option Value)}
    {oc_Table_iter kV_Table_iter dc_Table_iter pm_Table_iter cd_Table_iter ct_Table_iter : Value} {od_Table_iter an_Table_iter : Option Addr} {sl_Table_iter : Array (Option Value)}
    {oc_filled kV_filled dc_filled pm_filled cd_filled ct_filled : Value} {od_filled an_filled : Option Addr} {sl_filled : Array (Option Value)}
    {oc_grid kV_grid dc_grid pm_grid cd_grid ct_grid : Value} {od_grid an_grid : Option Addr} {sl_grid : Array (Option Value)}
    {oc_law_cell kV_law_cell dc_law_cell pm_law_cell cd_law_cell ct_law_cell : Value} {od_law_cell an_law_cell : Option Addr} {sl_law_cell : Array (Option Value)}
    {oc_law_pool kV_law_pool dc_law_pool pm_law_pool cd_law_pool ct_law_pool : Value} {od_law_pool an_law_pool : Option Addr} {sl_law_pool : Array (Option Value)}
    {oc_law_word kV_law_word dc_law_word pm_law_word cd_law_word ct_law_word : Value} {od_law_word an_law_word : Option Addr} {sl_law_word : Array (Option Value)}
    {oc_law_new kV_law_new dc_law_new pm_law_new cd_law_new ct_law_new : Value} {od_law_new an_law_new : Option Addr} {sl_law_new : Array (Option Value)}
    {oc_law_sequence kV_law_sequence dc_law_sequence pm_law_sequence cd_law_sequence ct_law_sequence : Value} {od_law_sequence an_law_sequence : Option Addr} {sl_law_sequence : Array (Option Value)}
    {oc_law_names kV_law_names dc_law_names pm_law_names cd_law_names ct_law_names : Value} {od_law_names an_law_names : Option Addr} {sl_law_names : Array (Option Value)}
    {oc_law_rows kV_law_rows dc_law_rows pm_law_rows cd_law_rows ct_law_rows : Value} {od_law_rows an_law_rows : Option Addr} {sl_law_rows : Array (Option Value)}
    {oc_law_filled kV_law_filled dc_law_filled pm_law_filled cd_law_filled ct_law_filled : Value} {od_law_filled an_law_filled : Option Addr} {sl_law_filled : Array (Option Value)}
    {oc_law_picture kV_law_picture dc_law_picture pm_law_picture cd_law_picture ct_law_picture : Value} {od_law_picture an_law_picture : Option Addr} {sl_law_picture : Array (Option Value)}
    {oc_law_grid_is kV_law_grid_is dc_law_grid_is pm_law_grid_is cd_law_grid_is ct_law_grid_is : Value} {od_law_grid_is an_law_grid_is : Option Addr} {sl_law_grid_is : Array (Option Value)}
    {oc_law_refused kV_law_refused dc_law_refused pm_law_refused cd_law_refused ct_law_refused : Value} {od_law_refused an_law_refused : Option Addr} {sl_law_refused : Array (Option Value)}
    {oc_law kV_law dc_law pm_law cd_law ct_law : Value} {od_law an_law : Option Addr} {sl_law : Array (Option Value)}
    (xmg_Table : PySem.W.nsIn K mainGlobals "Table" = some (some (.ref C_Table)))
    (xmg_RowsError : PySem.W.nsIn K mainGlobals "RowsError" = some (some (.ref C_RowsError)))
    (xmg_Unknown : PySem.W.nsIn K mainGlobals "Unknown" = some (some (.ref C_Unknown)))
    (xmg_Impossible : PySem.W.nsIn K mainGlobals "Impossible" = some (some (.ref C_Impossible)))
    (xmg_BadOrder : PySem.W.nsIn K mainGlobals "BadOrder" = some (some (.ref C_BadOrder)))
    (am_BadOrder_init : PySem.W.findIn K (.ref C_BadOrder) "__init__" = some (some (.ref a_BadOrder_init)))
    (xmg_LONGEST_NAME : PySem.W.nsIn K mainGlobals "LONGEST_NAME" = some (some (.int 8 tk_LONGEST_NAME)))
    (xmg_is_name : PySem.W.nsIn K mainGlobals "is_name" = some (some (.ref a_is_name)))
    (xmg_first_bad_name : PySem.W.nsIn K mainGlobals "first_bad_name" = some (some (.ref a_first_bad_name)))
    (xmg_first_stray : PySem.W.nsIn K mainGlobals "first_stray" = some (some (.ref a_first_stray)))
    (xmg_order_fault : PySem.W.nsIn K mainGlobals "order_fault" = some (some (.ref a_order_fault)))
    (xmg_count_runs : PySem.W.nsIn K mainGlobals "count_runs" = some (some (.ref a_count_runs)))
    (xmg_runs_of : PySem.W.nsIn K mainGlobals "runs_of" = some (some (.ref a_runs_of)))
    (xmg_check_order : PySem.W.nsIn K mainGlobals "check_order" = some (some (.ref a_check_order)))
    (xmg_check_columns : PySem.W.nsIn K mainGlobals "check_columns" = some (some (.ref a_check_columns)))
    (xmg_check_rows : PySem.W.nsIn K mainGlobals "_check_rows" = some (some (.ref a_check_rows)))
    (am_Table_in_order : PySem.W.findIn K (.ref C_Table) "_in_order" = some (some (.ref a_Table_in_order)))
    (am_Table_init : PySem.W.findIn K (.ref C_Table) "__init__" = some (some (.ref a_Table_init)))
    (am_Table_len : PySem.W.findIn K (.ref C_Table) "__len__" = some (some (.ref a_Table_len)))
    (am_Table_iter : PySem.W.findIn K (.ref C_Table) "__iter__" = some (some (.ref a_Table_iter)))
    (xmg_filled : PySem.W.nsIn K mainGlobals "_filled" = some (some (.ref a_filled)))
    (xmg_grid : PySem.W.nsIn K mainGlobals "grid" = some (some (.ref a_grid)))
    (xmg_law_cell : PySem.W.nsIn K mainGlobals "_law_cell" = some (some (.ref a_law_cell)))
    (xmg_law_pool : PySem.W.nsIn K mainGlobals "_law_pool" = some (some (.ref a_law_pool)))
    (xmg_law_word : PySem.W.nsIn K mainGlobals "_law_word" = some (some (.ref a_law_word)))
    (xmg_law_new : PySem.W.nsIn K mainGlobals "_law_new" = some (some (.ref a_law_new)))
    (xmg_law_sequence : PySem.W.nsIn K mainGlobals "_law_sequence" = some (some (.ref a_law_sequence)))
    (xmg_law_names : PySem.W.nsIn K mainGlobals "_law_names" = some (some (.ref a_law_names)))
    (xmg_law_rows : PySem.W.nsIn K mainGlobals "_law_rows" = some (some (.ref a_law_rows)))
    (xmg_law_filled : PySem.W.nsIn K mainGlobals "_law_filled" = some (some (.ref a_law_filled)))
    (xmg_law_picture : PySem.W.nsIn K mainGlobals "_law_picture" = some (some (.ref a_law_picture)))
    (xmg_law_grid_is : PySem.W.nsIn K mainGlobals "_law_grid_is" = some (some (.ref a_law_grid_is)))
    (xmg_law_refused : PySem.W.nsIn K mainGlobals "_law_refused" = some (some (.ref a_law_refused)))
    (xmg_law : PySem.W.nsIn K mainGlobals "law" = some (some (.ref a_law)))
    (if_Table_in_order : PySem.W.isFn K (.ref a_Table_in_order) = true)
    (if_Table_init : PySem.W.isFn K (.ref a_Table_init) = true)
    (if_Table_len : PySem.W.isFn K (.ref a_Table_len) = true)
    (if_Table_iter : PySem.W.isFn K (.ref a_Table_iter) = true)
    (l_BadOrder_init : K.lookup a_BadOrder_init = some ⟨oc_BadOrder_init, od_BadOrder_init, .func (PySem.W.ksFn "__init__" "BadOrder.__init__" (defArgs s_BadOrder_init) (defBody s_BadOrder_init) (defScope s_BadOrder_init) .none kV_BadOrder_init dc_BadOrder_init pm_BadOrder_init an_BadOrder_init (.ref cda_BadOrder_init) ct_BadOrder_init cc_BadOrder_init), sl_BadOrder_init⟩)
    (l_is_name : K.lookup a_is_name = some ⟨oc_is_name, od_is_name, .func (PySem.W.fnOf "is_name" "is_name" (defArgs s_is_name) (defBody s_is_name) (defScope s_is_name) .none kV_is_name dc_is_name pm_is_name an_is_name cd_is_name ct_is_name), sl_is_name⟩)
    (l_first_bad_name : K.lookup a_first_bad_name = some ⟨oc_first_bad_name, od_first_bad_name, .func (PySem.W.fnOf "first_bad_name" "first_bad_name" (defArgs s_first_bad_name) (defBody s_first_bad_name) (defScope s_first_bad_name) .none kV_first_bad_name dc_first_bad_name pm_first_bad_name an_first_bad_name cd_first_bad_name ct_first_bad_name), sl_first_bad_name⟩)
    (l_first_stray : K.lookup a_first_stray = some ⟨oc_first_stray, od_first_stray, .func (PySem.W.fnOf "first_stray" "first_stray" (defArgs s_first_stray) (defBody s_first_stray) (defScope s_first_stray) .none kV_first_stray dc_first_stray pm_first_stray an_first_stray cd_first_stray ct_first_stray), sl_first_stray⟩)
    (l_order_fault : K.lookup a_order_fault = some ⟨oc_order_fault, od_order_fault, .func (PySem.W.fnOf "order_fault" "order_fault" (defArgs s_order_fault) (defBody s_order_fault) (defScope s_order_fault) .none kV_order_fault dc_order_fault pm_order_fault an_order_fault cd_order_fault ct_order_fault), sl_order_fault⟩)
    (l_count_runs : K.lookup a_count_runs = some ⟨oc_count_runs, od_count_runs, .func (PySem.W.fnOf "count_runs" "count_runs" (defArgs s_count_runs) (defBody s_count_runs) (defScope s_count_runs) .none kV_count_runs dc_count_runs pm_count_runs an_count_runs cd_count_runs ct_count_runs), sl_count_runs⟩)
    (l_runs_of : K.lookup a_runs_of = some ⟨oc_runs_of, od_runs_of, .func (PySem.W.fnOf "runs_of" "runs_of" (defArgs s_runs_of) (defBody s_runs_of) (defScope s_runs_of) .none kV_runs_of dc_runs_of pm_runs_of an_runs_of cd_runs_of ct_runs_of), sl_runs_of⟩)
    (l_check_order : K.lookup a_check_order = some ⟨oc_check_order, od_check_order, .func (PySem.W.fnOf "check_order" "check_order" (defArgs s_check_order) (defBody s_check_order) (defScope s_check_order) .none kV_check_order dc_check_order pm_check_order an_check_order cd_check_order ct_check_order), sl_check_order⟩)
    (l_check_columns : K.lookup a_check_columns = some ⟨oc_check_columns, od_check_columns, .func (PySem.W.fnOf "check_columns" "check_columns" (defArgs s_check_columns) (defBody s_check_columns) (defScope s_check_columns) .none kV_check_columns dc_check_columns pm_check_columns an_check_columns cd_check_columns ct_check_columns), sl_check_columns⟩)
    (l_check_rows : K.lookup a_check_rows = some ⟨oc_check_rows, od_check_rows, .func (PySem.W.fnOf "_check_rows" "_check_rows" (defArgs s_check_rows) (defBody s_check_rows) (defScope s_check_rows) .none kV_check_rows dc_check_rows pm_check_rows an_check_rows cd_check_rows ct_check_rows), sl_check_rows⟩)
    (l_Table_in_order : K.lookup a_Table_in_order = some ⟨oc_Table_in_order, od_Table_in_order, .func (PySem.W.fnOf "_in_order" "Table._in_order" (defArgs s_Table_in_order) (defBody s_Table_in_order) (defScope s_Table_in_order) .none kV_Table_in_order dc_Table_in_order pm_Table_in_order an_Table_in_order cd_Table_in_order ct_Table_in_order), sl_Table_in_order⟩)
    (l_Table_init : K.lookup a_Table_init = some ⟨oc_Table_init, od_Table_init, .func (PySem.W.fnOf "__init__" "Table.__init__" (defArgs s_Table_init) (defBody s_Table_init) (defScope s_Table_init) (.ref TD_Table_init) kV_Table_init dc_Table_init pm_Table_init an_Table_init cd_Table_init ct_Table_init), sl_Table_init⟩)
    (l_Table_len : K.lookup a_Table_len = some ⟨oc_Table_len, od_Table_len, .func (PySem.W.fnOf "__len__" "Table.__len__" (defArgs s_Table_len) (defBody s_Table_len) (defScope s_Table_len) .none kV_Table_len dc_Table_len pm_Table_len an_Table_len cd_Table_len ct_Table_len), sl_Table_len⟩)
    (l_Table_iter : K.lookup a_Table_iter = some ⟨oc_Table_iter, od_Table_iter, .func (PySem.W.fnOf "__iter__" "Table.__iter__" (defArgs s_Table_iter) (defBody s_Table_iter) (defScope s_Table_iter) .none kV_Table_iter dc_Table_iter pm_Table_iter an_Table_iter cd_Table_iter ct_Table_iter), sl_Table_iter⟩)
    (l_filled : K.lookup a_filled = some ⟨oc_filled, od_filled, .func (PySem.W.fnOf "_filled" "_filled" (defArgs s_filled) (defBody s_filled) (defScope s_filled) .none kV_filled dc_filled pm_filled an_filled cd_filled ct_filled), sl_filled⟩)
    (l_grid : K.lookup a_grid = some ⟨oc_grid, od_grid, .func (PySem.W.fnOf "grid" "grid" (defArgs s_grid) (defBody s_grid) (defScope s_grid) .none kV_grid dc_grid pm_grid an_grid cd_grid ct_grid), sl_grid⟩)
    (l_law_cell : K.lookup a_law_cell = some ⟨oc_law_cell, od_law_cell, .func (PySem.W.fnOf "_law_cell" "_law_cell" (defArgs s_law_cell) (defBody s_law_cell) (defScope s_law_cell) .none kV_law_cell dc_law_cell pm_law_cell an_law_cell cd_law_cell ct_law_cell), sl_law_cell⟩)
    (l_law_pool : K.lookup a_law_pool = some ⟨oc_law_pool, od_law_pool, .func (PySem.W.fnOf "_law_pool" "_law_pool" (defArgs s_law_pool) (defBody s_law_pool) (defScope s_law_pool) .none kV_law_pool dc_law_pool pm_law_pool an_law_pool cd_law_pool ct_law_pool), sl_law_pool⟩)
    (l_law_word : K.lookup a_law_word = some ⟨oc_law_word, od_law_word, .func (PySem.W.fnOf "_law_word" "_law_word" (defArgs s_law_word) (defBody s_law_word) (defScope s_law_word) .none kV_law_word dc_law_word pm_law_word an_law_word cd_law_word ct_law_word), sl_law_word⟩)
    (l_law_new : K.lookup a_law_new = some ⟨oc_law_new, od_law_new, .func (PySem.W.fnOf "_law_new" "_law_new" (defArgs s_law_new) (defBody s_law_new) (defScope s_law_new) .none kV_law_new dc_law_new pm_law_new an_law_new cd_law_new ct_law_new), sl_law_new⟩)
    (l_law_sequence : K.lookup a_law_sequence = some ⟨oc_law_sequence, od_law_sequence, .func (PySem.W.fnOf "_law_sequence" "_law_sequence" (defArgs s_law_sequence) (defBody s_law_sequence) (defScope s_law_sequence) .none kV_law_sequence dc_law_sequence pm_law_sequence an_law_sequence cd_law_sequence ct_law_sequence), sl_law_sequence⟩)
    (l_law_names : K.lookup a_law_names = some ⟨oc_law_names, od_law_names, .func (PySem.W.fnOf "_law_names" "_law_names" (defArgs s_law_names) (defBody s_law_names) (defScope s_law_names) .none kV_law_names dc_law_names pm_law_names an_law_names cd_law_names ct_law_names), sl_law_names⟩)
    (l_law_rows : K.lookup a_law_rows = some ⟨oc_law_rows, od_law_rows, .func (PySem.W.fnOf "_law_rows" "_law_rows" (defArgs s_law_rows) (defBody s_law_rows) (defScope s_law_rows) .none kV_law_rows dc_law_rows pm_law_rows an_law_rows cd_law_rows ct_law_rows), sl_law_rows⟩)
    (l_law_filled : K.lookup a_law_filled = some ⟨oc_law_filled, od_law_filled, .func (PySem.W.fnOf "_law_filled" "_law_filled" (defArgs s_law_filled) (defBody s_law_filled) (defScope s_law_filled) .none kV_law_filled dc_law_filled pm_law_filled an_law_filled cd_law_filled ct_law_filled), sl_law_filled⟩)
    (l_law_picture : K.lookup a_law_picture = some ⟨oc_law_picture, od_law_picture, .func (PySem.W.fnOf "_law_picture" "_law_picture" (defArgs s_law_picture) (defBody s_law_picture) (defScope s_law_picture) .none kV_law_picture dc_law_picture pm_law_picture an_law_picture cd_law_picture ct_law_picture), sl_law_picture⟩)
    (l_law_grid_is : K.lookup a_law_grid_is = some ⟨oc_law_grid_is, od_law_grid_is, .func (PySem.W.fnOf "_law_grid_is" "_law_grid_is" (defArgs s_law_grid_is) (defBody s_law_grid_is) (defScope s_law_grid_is) .none kV_law_grid_is dc_law_grid_is pm_law_grid_is an_law_grid_is cd_law_grid_is ct_law_grid_is), sl_law_grid_is⟩)
    (l_law_refused : K.lookup a_law_refused = some ⟨oc_law_refused, od_law_refused, .func (PySem.W.fnOf "_law_refused" "_law_refused" (defArgs s_law_refused) (defBody s_law_refused) (defScope s_law_refused) .none kV_law_refused dc_law_refused pm_law_refused an_law_refused cd_law_refused ct_law_refused), sl_law_refused⟩)
    (l_law : K.lookup a_law = some ⟨oc_law, od_law, .func (PySem.W.fnOf "law" "law" (defArgs s_law) (defBody s_law) (defScope s_law) .none kV_law dc_law pm_law an_law cd_law ct_law), sl_law⟩)
    (lx_BadOrder_init : K.lookup cda_BadOrder_init = some ⟨oa_BadOrder_init, da_BadOrder_init, .fields vs_BadOrder_init, la_BadOrder_init⟩)
    (lq_BadOrder_init : K.lookup cc_BadOrder_init = some ⟨ob_BadOrder_init, db_BadOrder_init, .cell (some (.ref C_BadOrder)), lb_BadOrder_init⟩)
    (c_BadOrder_init : PySem.W.codeIn K (.ref cda_BadOrder_init) "BadOrder.__init__" = true)
    (c_is_name : PySem.W.codeIn K cd_is_name "is_name" = true)
    (k_is_name : PySem.W.keepIn K (.ref a_is_name) = true)
    (c_first_bad_name : PySem.W.codeIn K cd_first_bad_name "first_bad_name" = true)
    (k_first_bad_name : PySem.W.keepIn K (.ref a_first_bad_name) = true)
    (c_first_stray : PySem.W.codeIn K cd_first_stray "first_stray" = true)
    (k_first_stray : PySem.W.keepIn K (.ref a_first_stray) = true)
    (c_order_fault : PySem.W.codeIn K cd_order_fault "order_fault" = true)
    (k_order_fault : PySem.W.keepIn K (.ref a_order_fault) = true)
    (c_count_runs : PySem.W.codeIn K cd_count_runs "count_runs" = true)
    (k_count_runs : PySem.W.keepIn K (.ref a_count_runs) = true)
    (c_runs_of : PySem.W.codeIn K cd_runs_of "runs_of" = true)
    (k_runs_of : PySem.W.keepIn K (.ref a_runs_of) = true)
    (c_check_order : PySem.W.codeIn K cd_check_order "check_order" = true)
    (k_check_order : PySem.W.keepIn K (.ref a_check_order) = true)
    (c_check_columns : PySem.W.codeIn K cd_check_columns "check_columns" = true)
    (k_check_columns : PySem.W.keepIn K (.ref a_check_columns) = true)
    (c_check_rows : PySem.W.codeIn K cd_check_rows "_check_rows" = true)
    (k_check_rows : PySem.W.keepIn K (.ref a_check_rows) = true)
    (c_Table_in_order : PySem.W.codeIn K cd_Table_in_order "Table._in_order" = true)
    (k_Table_in_order : PySem.W.keepIn K (.ref a_Table_in_order) = true)
    (c_Table_init : PySem.W.codeIn K cd_Table_init "Table.__init__" = true)
    (k_Table_init : PySem.W.keepIn K (.ref a_Table_init) = true)
    (lt_Table_init : K.lookup TD_Table_init = some ⟨.type "tuple", to_Table_init, .seq #[.ref e_Table_init] tn_Table_init, ts_Table_init⟩)
    (c_Table_len : PySem.W.codeIn K cd_Table_len "Table.__len__" = true)
    (k_Table_len : PySem.W.keepIn K (.ref a_Table_len) = true)
    (c_Table_iter : PySem.W.codeIn K cd_Table_iter "Table.__iter__" = true)
    (k_Table_iter : PySem.W.keepIn K (.ref a_Table_iter) = true)
    (c_filled : PySem.W.codeIn K cd_filled "_filled" = true)
    (k_filled : PySem.W.keepIn K (.ref a_filled) = true)
    (c_grid : PySem.W.codeIn K cd_grid "grid" = true)
    (k_grid : PySem.W.keepIn K (.ref a_grid) = true)
    (c_law_cell : PySem.W.codeIn K cd_law_cell "_law_cell" = true)
    (k_law_cell : PySem.W.keepIn K (.ref a_law_cell) = true)
    (c_law_pool : PySem.W.codeIn K cd_law_pool "_law_pool" = true)
    (k_law_pool : PySem.W.keepIn K (.ref a_law_pool) = true)
    (c_law_word : PySem.W.codeIn K cd_law_word "_law_word" = true)
    (k_law_word : PySem.W.keepIn K (.ref a_law_word) = true)
    (c_law_new : PySem.W.codeIn K cd_law_new "_law_new" = true)
    (k_law_new : PySem.W.keepIn K (.ref a_law_new) = true)
    (c_law_sequence : PySem.W.codeIn K cd_law_sequence "_law_sequence" = true)
    (k_law_sequence : PySem.W.keepIn K (.ref a_law_sequence) = true)
    (c_law_names : PySem.W.codeIn K cd_law_names "_law_names" = true)
    (k_law_names : PySem.W.keepIn K (.ref a_law_names) = true)
    (c_law_rows : PySem.W.codeIn K cd_law_rows "_law_rows" = true)
    (k_law_rows : PySem.W.keepIn K (.ref a_law_rows) = true)
    (c_law_filled : PySem.W.codeIn K cd_law_filled "_law_filled" = true)
    (k_law_filled : PySem.W.keepIn K (.ref a_law_filled) = true)
    (c_law_picture : PySem.W.codeIn K cd_law_picture "_law_picture" = true)
    (k_law_picture : PySem.W.keepIn K (.ref a_law_picture) = true)
    (c_law_grid_is : PySem.W.codeIn K cd_law_grid_is "_law_grid_is" = true)
    (k_law_grid_is : PySem.W.keepIn K (.ref a_law_grid_is) = true)
    (c_law_refused : PySem.W.codeIn K cd_law_refused "_law_refused" = true)
    (k_law_refused : PySem.W.keepIn K (.ref a_law_refused) = true)
    (c_law : PySem.W.codeIn K cd_law "law" = true)
    (k_law : PySem.W.keepIn K (.ref a_law) = true)
    (pgcl_Table : PySem.W.plainGet K C_Table Str.empty = true)
    (hdcl_Table : PySem.W.hasDictIn K C_Table = true)
    (pocl_Table : PySem.W.plainOver K C_Table = true)
    (sacl_Table : PySem.W.findIn K (.ref C_Table) "__setattr__" = some (some (.builtin "object.__setattr__")))
    (xsf_Table : PySem.W.selfFirst K C_Table = true)
    (kmk_Table : PySem.W.makesIn K C_Table = true)
    (kkmk_Table : PySem.W.keepIn K (.ref C_Table) = true)
    (xc1_Table : PySem.W.findIn K (.ref C_Table) "__class__" = some (some (.builtin "object.__class__")))
    (xc3_Table : PySem.W.mroIn K C_Table (.type "object") = some true)
    (xn_Table_columns : PySem.W.findIn K (.ref C_Table) "columns" = some none)
    (xn_Table_rows : PySem.W.findIn K (.ref C_Table) "rows" = some none)
    (xc2 : PySem.W.specialIn K (.builtin "object.__class__") "__get__" = some (some (.builtin "getset_descriptor.__get__")))
    (xc4 : PySem.W.takesIn K (.builtin "object.__class__") = some true)
    (xtp_RowsError : PySem.W.typeIn K (.ref C_RowsError) = some (.type "type"))
    (xic_RowsError : PySem.W.isClsIn K C_RowsError = true)
    (xtp_Unknown : PySem.W.typeIn K (.ref C_Unknown) = some (.type "type"))
    (xic_Unknown : PySem.W.isClsIn K C_Unknown = true)
    (xtp_Impossible : PySem.W.typeIn K (.ref C_Impossible) = some (.type "type"))
    (xic_Impossible : PySem.W.isClsIn K C_Impossible = true)
    (xtp_BadOrder : PySem.W.typeIn K (.ref C_BadOrder) = some (.type "type"))
    (xic_BadOrder : PySem.W.isClsIn K C_BadOrder = true)
    (g1SC_BadOrder : PySem.W.clsIn K C_BadOrder = some cd_BadOrder)
    (g2SC_BadOrder : PySem.W.mroIn K C_BadOrder (.ref C_BadOrder) = some true)
    (ksSC_BadOrder : PySem.W.ks_superIn K C_BadOrder C_BadOrder "__init__" = some (some (.builtin "ValueError.__init__")))
    (g4SC_BadOrder : PySem.W.nsIn K PySem.cStatics "thirdparty.any" = some none)
    (g5SC_BadOrder : PySem.W.nsIn K mainGlobals "super" = some none)
    (rfSC_BadOrder : (l.prog.main.scope.names.lookup ("super" : Str)).isSome = false)
    (kxSC_BadOrder : PySem.W.excInitIn K C_BadOrder [.type "ValueError", .type "Exception", .type "BaseException", .type "object"] "ValueError.__new__" = true)
    (g6SC_BadOrder : PySem.W.findIn K (.ref C_BadOrder) "__setattr__" = some (some (.builtin "object.__setattr__")))
    (rv_BadOrder_init : vs_BadOrder_init[2]? = some (.str fl_BadOrder_init tf_BadOrder_init))
    (rg_BadOrder_init : ((l.prog.main.file : Str) == fl_BadOrder_init) = true)
    (xti_BadOrder : PySem.W.typeIn K (.ref a_BadOrder_init) = some (.type "function"))
    (xxn_BadOrder_index : PySem.W.findIn K (.ref C_BadOrder) "index" = some none)
    (xk_BadOrder : PySem.W.keepIn K (.ref C_BadOrder) = true)
    (xbp_BadOrder : PySem.W.subIn K (.ref C_BadOrder) (.type "BaseException") = some true)
    (xsv_BadOrder : PySem.W.subIn K (.ref C_BadOrder) (.type "ValueError") = some true)
    (xss_BadOrder : PySem.W.subIn K (.ref C_BadOrder) (.ref C_BadOrder) = some true)
    (xsu_BadOrder_RowsError : PySem.W.subIn K (.ref C_BadOrder) (.ref C_RowsError) = some true)
    (xsu_BadOrder_Unknown : PySem.W.subIn K (.ref C_BadOrder) (.ref C_Unknown) = some false)
    (xsu_BadOrder_Impossible : PySem.W.subIn K (.ref C_BadOrder) (.ref C_Impossible) = some false)
    (xe1_BadOrder : PySem.W.findIn K (.ref C_BadOrder) "__getattribute__" = some (some (.builtin "BaseException.__getattribute__")))
    (xe2_BadOrder : PySem.W.findIn K (.ref C_BadOrder) "__getattr__" = some none)
    (xe3_BadOrder : PySem.W.hasDictIn K C_BadOrder = true)
    (xe4_BadOrder : PySem.W.findIn K (.ref C_BadOrder) "__class__" = some (some (.builtin "object.__class__")))
    (xe5_BadOrder : PySem.W.mroIn K C_BadOrder (.type "object") = some true)
    (r1cr_Table : PySem.W.readsIn K C_Table (.type "type") = true)
    (r2cr_Table : PySem.W.specialIn K (.ref C_Table) "__getattribute__" = some (some (.builtin "type.__getattribute__")))
    (xcv_Table_MOST_COLUMNS : PySem.W.findCls K (.ref C_Table) (.type "type") "MOST_COLUMNS" = some (.val (.int 12 tk_Table_MOST_COLUMNS)))
    (xcv_Table_MOST_ROWS : PySem.W.findCls K (.ref C_Table) (.type "type") "MOST_ROWS" = some (.val (.int 48 tk_Table_MOST_ROWS)))
    (xn_abs : PySem.W.nsIn K mainGlobals "abs" = some none)
    (xn_int : PySem.W.nsIn K mainGlobals "int" = some none)
    (xn_isinstance : PySem.W.nsIn K mainGlobals "isinstance" = some none)
    (xn_range : PySem.W.nsIn K mainGlobals "range" = some none)
    (xn_len : PySem.W.nsIn K mainGlobals "len" = some none)
    (xn_str : PySem.W.nsIn K mainGlobals "str" = some none)
    (xn_tuple : PySem.W.nsIn K mainGlobals "tuple" = some none)
    (xn_list : PySem.W.nsIn K mainGlobals "list" = some none)
    (xn_ValueError : PySem.W.nsIn K mainGlobals "ValueError" = some none)
    (xn_all : PySem.W.nsIn K mainGlobals "all" = some none)
    (xn_max : PySem.W.nsIn K mainGlobals "max" = some none)
    (xn_enumerate : PySem.W.nsIn K mainGlobals "enumerate" = some none)
    (xn_iter : PySem.W.nsIn K mainGlobals "iter" = some none)
    (xn_bool : PySem.W.nsIn K mainGlobals "bool" = some none)
    : ∃ fd : FuncData, (∀ (s : Shared) (v : Value), BindsTo s fd ⟨[v], []⟩ [("script", v)]) ∧ ∀ base : Heap, K.In base → base.Ns mainGlobals mg → FnOk l.prog w K mg base CX0 12 fa fd ["script"] (spLaw K) := by
  have e := hfa.symm.trans (PySem.W.mg_of X G xmg_law)
  cases e
  have T : Txt l.prog K mg ⟨C_Table, C_RowsError, C_Unknown, C_Impossible, C_BadOrder, a_BadOrder_init, _, a_is_name, _, a_first_bad_name, _, a_first_stray, _, a_order_fault, _, a_count_runs, _, a_runs_of, _, a_check_order, _, a_check_columns, _, a_check_rows, _, a_Table_in_order, _, a_Table_init, _, a_Table_len, _, a_Table_iter, _, a_filled, _, a_grid, _, a_law_cell, _, a_law_pool, _, a_law_word, _, a_law_new, _, a_law_sequence, _, a_law_names, _, a_law_rows, _, a_law_filled, _, a_law_picture, _, a_law_grid_is, _, a_law_refused, _, fa, _, e_Table_init⟩ := {
    mg_Table := PySem.W.mg_of X G xmg_Table
    cl_Table := ⟨pgcl_Table, hdcl_Table, pocl_Table, sacl_Table⟩
    sf_Table := xsf_Table
    mk_Table := ⟨kmk_Table, am_Table_init, if_Table_init, kkmk_Table⟩
    c1_Table := xc1_Table
    c3_Table := xc3_Table
    n_Table_columns := xn_Table_columns
    n_Table_rows := xn_Table_rows
    c2 := xc2
    c4 := xc4
    mg_RowsError := PySem.W.mg_of X G xmg_RowsError
    tp_RowsError := xtp_RowsError
    ic_RowsError := xic_RowsError
    mg_Unknown := PySem.W.mg_of X G xmg_Unknown
    tp_Unknown := xtp_Unknown
    ic_Unknown := xic_Unknown
    mg_Impossible := PySem.W.mg_of X G xmg_Impossible
    tp_Impossible := xtp_Impossible
    ic_Impossible := xic_Impossible
    mg_BadOrder := PySem.W.mg_of X G xmg_BadOrder
    tp_BadOrder := xtp_BadOrder
    ic_BadOrder := xic_BadOrder
    SC_BadOrder := ⟨⟨_, g1SC_BadOrder⟩, g2SC_BadOrder, ksSC_BadOrder, g4SC_BadOrder, xsv_BadOrder, PySem.W.mg_none_of X G g5SC_BadOrder, rfSC_BadOrder, oex_of kxSC_BadOrder xe3_BadOrder g6SC_BadOrder xbp_BadOrder xtp_BadOrder xk_BadOrder⟩
    SF_BadOrder := ⟨⟨_, _, _, _, _, _, _, _, _, _, rfl, l_BadOrder_init, c_BadOrder_init, ⟨_, _, _, _, _, _, lx_BadOrder_init, rv_BadOrder_init, rg_BadOrder_init⟩, _, _, _, lq_BadOrder_init⟩⟩
    ii_BadOrder := am_BadOrder_init
    ti_BadOrder := xti_BadOrder
    b_BadOrder_init := fun s us _ hl => by rw [List.append_nil] at hl ⊢; exact .of_eq (match us, hl with | [_, _], _ => rfl)
    xn_BadOrder_index := xxn_BadOrder_index
    xf_BadOrder := ⟨xe1_BadOrder, xe2_BadOrder, xbp_BadOrder, xe3_BadOrder⟩
    ec_BadOrder := ⟨xe1_BadOrder, xe2_BadOrder, xbp_BadOrder, xe3_BadOrder, xe4_BadOrder, xc2, xc4, xe5_BadOrder⟩
    k_BadOrder := xk_BadOrder
    bp_BadOrder := xbp_BadOrder
    sv_BadOrder := xsv_BadOrder
    ss_BadOrder := xss_BadOrder
    su_BadOrder_RowsError := xsu_BadOrder_RowsError
    su_BadOrder_Unknown := xsu_BadOrder_Unknown
    su_BadOrder_Impossible := xsu_BadOrder_Impossible
    e1_BadOrder := xe1_BadOrder
    e2_BadOrder := xe2_BadOrder
    e3_BadOrder := xe3_BadOrder
    e4_BadOrder := xe4_BadOrder
    e5_BadOrder := xe5_BadOrder
    mg_LONGEST_NAME := ⟨_, PySem.W.mg_of X G xmg_LONGEST_NAME⟩
    cr_Table := ⟨r1cr_Table, r2cr_Table⟩
    cv_Table_MOST_COLUMNS := ⟨_, ⟨xcv_Table_MOST_COLUMNS, ⟨_, rfl⟩⟩⟩
    cv_Table_MOST_ROWS := ⟨_, ⟨xcv_Table_MOST_ROWS, ⟨_, rfl⟩⟩⟩
    n_abs := PySem.W.mg_none_of X G xn_abs
    n_int := PySem.W.mg_none_of X G xn_int
    n_isinstance := PySem.W.mg_none_of X G xn_isinstance
    n_range := PySem.W.mg_none_of X G xn_range
    n_len := PySem.W.mg_none_of X G xn_len
    n_str := PySem.W.mg_none_of X G xn_str
    n_tuple := PySem.W.mg_none_of X G xn_tuple
    n_list := PySem.W.mg_none_of X G xn_list
    n_ValueError := PySem.W.mg_none_of X G xn_ValueError
    n_all := PySem.W.mg_none_of X G xn_all
    n_max := PySem.W.mg_none_of X G xn_max
    n_enumerate := PySem.W.mg_none_of X G xn_enumerate
    n_iter := PySem.W.mg_none_of X G xn_iter
    n_bool := PySem.W.mg_none_of X G xn_bool
    F_is_name := fun_mk (st := s_is_name) l_is_name c_is_name k_is_name
    b_is_name := (fun_mk (st := s_is_name) l_is_name c_is_name k_is_name).binds fun _ _ _ _ _ _ us hl => match us, hl with | [_], _ => rfl
    mg_is_name := PySem.W.mg_of X G xmg_is_name
    F_first_bad_name := fun_mk (st := s_first_bad_name) l_first_bad_name c_first_bad_name k_first_bad_name
    b_first_bad_name := (fun_mk (st := s_first_bad_name) l_first_bad_name c_first_bad_name k_first_bad_name).binds fun _ _ _ _ _ _ us hl => match us, hl with | [_], _ => rfl
    mg_first_bad_name := PySem.W.mg_of X G xmg_first_bad_name
    F_first_stray := fun_mk (st := s_first_stray) l_first_stray c_first_stray k_first_stray
    b_first_stray := (fun_mk (st := s_first_stray) l_first_stray c_first_stray k_first_stray).binds fun _ _ _ _ _ _ us hl => match us, hl with | [_, _], _ => rfl
    mg_first_stray := PySem.W.mg_of X G xmg_first_stray
    F_order_fault := fun_mk (st := s_order_fault) l_order_fault c_order_fault k_order_fault
    b_order_fault := (fun_mk (st := s_order_fault) l_order_fault c_order_fault k_order_fault).binds fun _ _ _ _ _ _ us hl => match us, hl with | [_, _], _ => rfl
    mg_order_fault := PySem.W.mg_of X G xmg_order_fault
    F_count_runs := fun_mk (st := s_count_runs) l_count_runs c_count_runs k_count_runs
    b_count_runs := (fun_mk (st := s_count_runs) l_count_runs c_count_runs k_count_runs).binds fun _ _ _ _ _ _ us hl => match us, hl with | [_], _ => rfl
    mg_count_runs := PySem.W.mg_of X G xmg_count_runs
    F_runs_of := fun_mk (st := s_runs_of) l_runs_of c_runs_of k_runs_of
    b_runs_of := (fun_mk (st := s_runs_of) l_runs_of c_runs_of k_runs_of).binds fun _ _ _ _ _ _ us hl => match us, hl with | [_, _], _ => rfl
    mg_runs_of := PySem.W.mg_of X G xmg_runs_of
    F_check_order := fun_mk (st := s_check_order) l_check_order c_check_order k_check_order
    b_check_order := (fun_mk (st := s_check_order) l_check_order c_check_order k_check_order).binds fun _ _ _ _ _ _ us hl => match us, hl with | [_, _], _ => rfl
    mg_check_order := PySem.W.mg_of X G xmg_check_order
    F_check_columns := fun_mk (st := s_check_columns) l_check_columns c_check_columns k_check_columns
    b_check_columns := (fun_mk (st := s_check_columns) l_check_columns c_check_columns k_check_columns).binds fun _ _ _ _ _ _ us hl => match us, hl with | [_], _ => rfl
    mg_check_columns := PySem.W.mg_of X G xmg_check_columns
    F_check_rows := fun_mk (st := s_check_rows) l_check_rows c_check_rows k_check_rows
    b_check_rows := (fun_mk (st := s_check_rows) l_check_rows c_check_rows k_check_rows).binds fun _ _ _ _ _ _ us hl => match us, hl with | [_, _], _ => rfl
    mg_check_rows := PySem.W.mg_of X G xmg_check_rows
    F_Table_in_order := fun_mk (st := s_Table_in_order) l_Table_in_order c_Table_in_order k_Table_in_order
    b_Table_in_order := (fun_mk (st := s_Table_in_order) l_Table_in_order c_Table_in_order k_Table_in_order).binds fun _ _ _ _ _ _ us hl => match us, hl with | [_, _], _ => rfl
    m_Table_in_order := ⟨am_Table_in_order, if_Table_in_order, k_Table_in_order⟩
    F_Table_init := ⟨⟨_, _, _, _, _, _, _, _, _, _, rfl, l_Table_init, c_Table_init, .inr ⟨by simp, TD_Table_init, _, [.ref e_Table_init], _, rfl, lt_Table_init, rfl, .cons rfl .nil⟩, .inl rfl⟩, k_Table_init⟩
    m_Table_init := ⟨am_Table_init, if_Table_init, k_Table_init⟩
    F_Table_len := fun_mk (st := s_Table_len) l_Table_len c_Table_len k_Table_len
    b_Table_len := (fun_mk (st := s_Table_len) l_Table_len c_Table_len k_Table_len).binds fun _ _ _ _ _ _ us hl => match us, hl with | [_], _ => rfl
    m_Table_len := ⟨am_Table_len, if_Table_len, k_Table_len⟩
    F_Table_iter := fun_mk (st := s_Table_iter) l_Table_iter c_Table_iter k_Table_iter
    b_Table_iter := (fun_mk (st := s_Table_iter) l_Table_iter c_Table_iter k_Table_iter).binds fun _ _ _ _ _ _ us hl => match us, hl with | [_], _ => rfl
    m_Table_iter := ⟨am_Table_iter, if_Table_iter, k_Table_iter⟩
    F_filled := fun_mk (st := s_filled) l_filled c_filled k_filled
    b_filled := (fun_mk (st := s_filled) l_filled c_filled k_filled).binds fun _ _ _ _ _ _ us hl => match us, hl with | [_, _], _ => rfl
    mg_filled := PySem.W.mg_of X G xmg_filled
    F_grid := fun_mk (st := s_grid) l_grid c_grid k_grid
    b_grid := (fun_mk (st := s_grid) l_grid c_grid k_grid).binds fun _ _ _ _ _ _ us hl => match us, hl with | [_, _], _ => rfl
    mg_grid := PySem.W.mg_of X G xmg_grid
    F_law_cell := fun_mk (st := s_law_cell) l_law_cell c_law_cell k_law_cell
    b_law_cell := (fun_mk (st := s_law_cell) l_law_cell c_law_cell k_law_cell).binds fun _ _ _ _ _ _ us hl => match us, hl with | [_, _], _ => rfl
    mg_law_cell := PySem.W.mg_of X G xmg_law_cell
    F_law_pool := fun_mk (st := s_law_pool) l_law_pool c_law_pool k_law_pool
    b_law_pool := (fun_mk (st := s_law_pool) l_law_pool c_law_pool k_law_pool).binds fun _ _ _ _ _ _ us hl => match us, hl with | [_, _, _], _ => rfl
    mg_law_pool := PySem.W.mg_of X G xmg_law_pool
    F_law_word := fun_mk (st := s_law_word) l_law_word c_law_word k_law_word
    b_law_word := (fun_mk (st := s_law_word) l_law_word c_law_word k_law_word).binds fun _ _ _ _ _ _ us hl => match us, hl with | [_, _], _ => rfl
    mg_law_word := PySem.W.mg_of X G xmg_law_word
    F_law_new := fun_mk (st := s_law_new) l_law_new c_law_new k_law_new
    b_law_new := (fun_mk (st := s_law_new) l_law_new c_law_new k_law_new).binds fun _ _ _ _ _ _ us hl => match us, hl with | [_, _], _ => rfl
    mg_law_new := PySem.W.mg_of X G xmg_law_new
    F_law_sequence := fun_mk (st := s_law_sequence) l_law_sequence c_law_sequence k_law_sequence
    b_law_sequence := (fun_mk (st := s_law_sequence) l_law_sequence c_law_sequence k_law_sequence).binds fun _ _ _ _ _ _ us hl => match us, hl with | [_, _], _ => rfl
    mg_law_sequence := PySem.W.mg_of X G xmg_law_sequence
    F_law_names := fun_mk (st := s_law_names) l_law_names c_law_names k_law_names
    b_law_names := (fun_mk (st := s_law_names) l_law_names c_law_names k_law_names).binds fun _ _ _ _ _ _ us hl => match us, hl with | [_], _ => rfl
    mg_law_names := PySem.W.mg_of X G xmg_law_names
    F_law_rows := fun_mk (st := s_law_rows) l_law_rows c_law_rows k_law_rows
    b_law_rows := (fun_mk (st := s_law_rows) l_law_rows c_law_rows k_law_rows).binds fun _ _ _ _ _ _ us hl => match us, hl with | [_, _, _, _], _ => rfl
    mg_law_rows := PySem.W.mg_of X G xmg_law_rows
    F_law_filled := fun_mk (st := s_law_filled) l_law_filled c_law_filled k_law_filled
    b_law_filled := (fun_mk (st := s_law_filled) l_law_filled c_law_filled k_law_filled).binds fun _ _ _ _ _ _ us hl => match us, hl with | [_, _], _ => rfl
    mg_law_filled := PySem.W.mg_of X G xmg_law_filled
    F_law_picture := fun_mk (st := s_law_picture) l_law_picture c_law_picture k_law_picture
    b_law_picture := (fun_mk (st := s_law_picture) l_law_picture c_law_picture k_law_picture).binds fun _ _ _ _ _ _ us hl => match us, hl with | [_, _, _], _ => rfl
    mg_law_picture := PySem.W.mg_of X G xmg_law_picture
    F_law_grid_is := fun_mk (st := s_law_grid_is) l_law_grid_is c_law_grid_is k_law_grid_is
    b_law_grid_is := (fun_mk (st := s_law_grid_is) l_law_grid_is c_law_grid_is k_law_grid_is).binds fun _ _ _ _ _ _ us hl => match us, hl with | [_, _, _, _], _ => rfl
    mg_law_grid_is := PySem.W.mg_of X G xmg_law_grid_is
    F_law_refused := fun_mk (st := s_law_refused) l_law_refused c_law_refused k_law_refused
    b_law_refused := (fun_mk (st := s_law_refused) l_law_refused c_law_refused k_law_refused).binds fun _ _ _ _ _ _ us hl => match us, hl with | [_, _, _], _ => rfl
    mg_law_refused := PySem.W.mg_of X G xmg_law_refused
    F_law := fun_mk (st := s_law) l_law c_law k_law
    b_law := (fun_mk (st := s_law) l_law c_law k_law).binds fun _ _ _ _ _ _ us hl => match us, hl with | [_], _ => rfl
    mg_law := PySem.W.mg_of X G xmg_law
  }
  exact ⟨_, fun s v => .of_eq rfl, fun base _ _ => ok_law T⟩
theorem walk {l : PySem.W.OpenLaw} {q : Program} {loose : List Str} {XP : (Str → Option Value) → Heap → Prop} {YP : World → Heap → Prop} {d : DefRec} {K : Params → PySem.W.Frag} (hn : l.most = some 63) (hdf : d.params.defaults = [])
    (hY : ∀ (w : World) (h : Heap), YP w h → (K w.params).In h)
    (F : ∀ (w : World) (mg : Str → Option Value) (fa : Addr) (h : Heap), (K w.params).In h → h.Ns mainGlobals mg → mg d.name = some (.ref fa) →
      ∃ fd : FuncData, (∀ (s : Shared) (u : Value), BindsTo s fd ⟨[u], []⟩ [("script", u)]) ∧ ∀ base : Heap, (K w.params).In base → base.Ns mainGlobals mg → FnOk l.prog w (K w.params) mg base CX0 12 fa fd ["script"] (spLaw (K w.params))) :
    PySem.W.WalkO q loose XP YP l.row.toRowW d [] (fun f vs => PySem.call f vs) :=
  L2.walk_of (n := 63) (k := 12) (x := "script") (CX := fun _ => CX0) (sp := fun w => spLaw (K w.params)) hn (by decide) hdf ⟨rfl, by decide, by decide⟩ hY F (fun _ _ a ns hl _ hS => ⟨a, ns, rfl, hS, hl, fun _ => rfl⟩) fun _ _ _ _ _ z => z
end My
open PySem PySem.W PyProof.Rows
set_option maxRecDepth 100000 in
set_option maxHeartbeats 0 in
theorem PySem.Challenge.cw_unbrokenrows_k06_grids_holds : PySem.Challenge.rw_unbrokenrows_k06_grids.Holds := by
  w_on; o_law; k_head; (case hw => w_witness2)
  k_fill
  refine My.walk (l := PySem.Challenge.rw_unbrokenrows_k06_grids) rfl rfl (fun w h Y => PySem.W.kIn_of Y) ?F
  case F =>
    intro w mg fa h KX G hmg
    refine' My.all_mk KX G hmg ?xmg_Table ?xmg_RowsError ?xmg_Unknown ?xmg_Impossible ?xmg_BadOrder ?am_BadOrder_init ?xmg_LONGEST_NAME ?xmg_is_name ?xmg_first_bad_name ?xmg_first_stray ?xmg_order_fault ?xmg_count_runs ?xmg_runs_of ?xmg_check_order ?xmg_check_columns ?xmg_check_rows ?am_Table_in_order ?am_Table_init ?am_Table_len ?am_Table_iter ?xmg_filled ?xmg_grid ?xmg_law_cell ?xmg_law_pool ?xmg_law_word ?xmg_law_new ?xmg_law_sequence ?xmg_law_names ?xmg_law_rows ?xmg_law_filled ?xmg_law_picture ?xmg_law_grid_is ?xmg_law_refused ?xmg_law ?if_Table_in_order ?if_Table_init ?if_Table_len ?if_Table_iter ?l_BadOrder_init ?l_is_name ?l_first_bad_name ?l_first_stray ?l_order_fault ?l_count_runs ?l_runs_of ?l_check_order ?l_check_columns ?l_check_rows ?l_Table_in_order ?l_Table_init ?l_Table_len ?l_Table_iter ?l_filled ?l_grid ?l_law_cell ?l_law_pool ?l_law_word ?l_law_new ?l_law_sequence ?l_law_names ?l_law_rows ?l_law_filled ?l_law_picture ?l_law_grid_is ?l_law_refused ?l_law ?lx_BadOrder_init ?lq_BadOrder_init ?c_BadOrder_init ?c_is_name ?k_is_name ?c_first_bad_name ?k_first_bad_name ?c_first_stray ?k_first_stray ?c_order_fault ?k_order_fault ?c_count_runs ?k_count_runs ?c_runs_of ?k_runs_of ?c_check_order ?k_check_order ?c_check_columns ?k_check_columns ?c_check_rows ?k_check_rows ?c_Table_in_order ?k_Table_in_order ?c_Table_init ?k_Table_init ?lt_Table_init ?c_Table_len ?k_Table_len ?c_Table_iter ?k_Table_iter ?c_filled ?k_filled ?c_grid ?k_grid ?c_law_cell ?k_law_cell ?c_law_pool ?k_law_pool ?c_law_word ?k_law_word ?c_law_new ?k_law_new ?c_law_sequence ?k_law_sequence ?c_law_names ?k_law_names ?c_law_rows ?k_law_rows ?c_law_filled ?k_law_filled ?c_law_picture ?k_law_picture ?c_law_grid_is ?k_law_grid_is ?c_law_refused ?k_law_refused ?c_law ?k_law ?pgcl_Table ?hdcl_Table ?pocl_Table ?sacl_Table ?xsf_Table ?kmk_Table ?kkmk_Table ?xc1_Table ?xc3_Table ?xn_Table_columns ?xn_Table_rows ?xc2 ?xc4 ?xtp_RowsError ?xic_RowsError ?xtp_Unknown ?xic_Unknown ?xtp_Impossible ?xic_Impossible ?xtp_BadOrder ?xic_BadOrder ?g1SC_BadOrder ?g2SC_BadOrder ?ksSC_BadOrder ?g4SC_BadOrder ?g5SC_BadOrder ?rfSC_BadOrder ?kxSC_BadOrder ?g6SC_BadOrder ?rv_BadOrder_init ?rg_BadOrder_init ?xti_BadOrder ?xxn_BadOrder_index ?xk_BadOrder ?xbp_BadOrder ?xsv_BadOrder ?xss_BadOrder ?xsu_BadOrder_RowsError ?xsu_BadOrder_Unknown ?xsu_BadOrder_Impossible ?xe1_BadOrder ?xe2_BadOrder ?xe3_BadOrder ?xe4_BadOrder ?xe5_BadOrder ?r1cr_Table ?r2cr_Table ?xcv_Table_MOST_COLUMNS ?xcv_Table_MOST_ROWS ?xn_abs ?xn_int ?xn_isinstance ?xn_range ?xn_len ?xn_str ?xn_tuple ?xn_list ?xn_ValueError ?xn_all ?xn_max ?xn_enumerate ?xn_iter ?xn_bool
    (case xmg_Table => k_is)
    (case xmg_RowsError => k_is)
    (case xmg_Unknown => k_is)
    (case xmg_Impossible => k_is)
    (case xmg_BadOrder => k_is)
    (case am_BadOrder_init => k_is)
    (case xmg_LONGEST_NAME => k_is)
    (case xmg_is_name => k_is)
    (case xmg_first_bad_name => k_is)
    (case xmg_first_stray => k_is)
    (case xmg_order_fault => k_is)
    (case xmg_count_runs => k_is)
    (case xmg_runs_of => k_is)
    (case xmg_check_order => k_is)
    (case xmg_check_columns => k_is)
    (case xmg_check_rows => k_is)
    (case am_Table_in_order => k_is)
    (case am_Table_init => k_is)
    (case am_Table_len => k_is)
    (case am_Table_iter => k_is)
    (case xmg_filled => k_is)
    (case xmg_grid => k_is)
    (case xmg_law_cell => k_is)
    (case xmg_law_pool => k_is)
    (case xmg_law_word => k_is)
    (case xmg_law_new => k_is)
    (case xmg_law_sequence => k_is)
    (case xmg_law_names => k_is)
    (case xmg_law_rows => k_is)
    (case xmg_law_filled => k_is)
    (case xmg_law_picture => k_is)
    (case xmg_law_grid_is => k_is)
    (case xmg_law_refused => k_is)
    (case xmg_law => k_is)
    (case if_Table_in_order => k_is)
    (case if_Table_init => k_is)
    (case if_Table_len => k_is)
    (case if_Table_iter => k_is)
    (case l_BadOrder_init => k_is)
    (case l_is_name => k_is)
    (case l_first_bad_name => k_is)
    (case l_first_stray => k_is)
    (case l_order_fault => k_is)
    (case l_count_runs => k_is)
    (case l_runs_of => k_is)
    (case l_check_order => k_is)
    (case l_check_columns => k_is)
    (case l_check_rows => k_is)
    (case l_Table_in_order => k_is)
    (case l_Table_init => k_is)
    (case l_Table_len => k_is)
    (case l_Table_iter => k_is)
    (case l_filled => k_is)
    (case l_grid => k_is)
    (case l_law_cell => k_is)
    (case l_law_pool => k_is)
    (case l_law_word => k_is)
    (case l_law_new => k_is)
    (case l_law_sequence => k_is)
    (case l_law_names => k_is)
    (case l_law_rows => k_is)
    (case l_law_filled => k_is)
    (case l_law_picture => k_is)
    (case l_law_grid_is => k_is)
    (case l_law_refused => k_is)
    (case l_law => k_is)
    (case lx_BadOrder_init => k_is)
    (case lq_BadOrder_init => k_is)
    (case c_BadOrder_init => k_is)
    (case c_is_name => k_is)
    (case k_is_name => k_is)
    (case c_first_bad_name => k_is)
    (case k_first_bad_name => k_is)
    (case c_first_stray => k_is)
    (case k_first_stray => k_is)
    (case c_order_fault => k_is)
    (case k_order_fault => k_is)
    (case c_count_runs => k_is)
    (case k_count_runs => k_is)
    (case c_runs_of => k_is)
    (case k_runs_of => k_is)
    (case c_check_order => k_is)
    (case k_check_order => k_is)
    (case c_check_columns => k_is)
    (case k_check_columns => k_is)
    (case c_check_rows => k_is)
    (case k_check_rows => k_is)
    (case c_Table_in_order => k_is)
    (case k_Table_in_order => k_is)
    (case c_Table_init => k_is)
    (case k_Table_init => k_is)
    (case lt_Table_init => k_is)
    (case c_Table_len => k_is)
    (case k_Table_len => k_is)
    (case c_Table_iter => k_is)
    (case k_Table_iter => k_is)
    (case c_filled => k_is)
    (case k_filled => k_is)
    (case c_grid => k_is)
    (case k_grid => k_is)
    (case c_law_cell => k_is)
    (case k_law_cell => k_is)
    (case c_law_pool => k_is)
    (case k_law_pool => k_is)
    (case c_law_word => k_is)
    (case k_law_word => k_is)
    (case c_law_new => k_is)
    (case k_law_new => k_is)
    (case c_law_sequence => k_is)
    (case k_law_sequence => k_is)
    (case c_law_names => k_is)
    (case k_law_names => k_is)
    (case c_law_rows => k_is)
    (case k_law_rows => k_is)
    (case c_law_filled => k_is)
    (case k_law_filled => k_is)
    (case c_law_picture => k_is)
    (case k_law_picture => k_is)
    (case c_law_grid_is => k_is)
    (case k_law_grid_is => k_is)
    (case c_law_refused => k_is)
    (case k_law_refused => k_is)
    (case c_law => k_is)
    (case k_law => k_is)
    (case pgcl_Table => k_is)
    (case hdcl_Table => k_is)
    (case pocl_Table => k_is)
    (case sacl_Table => k_is)
    (case xsf_Table => k_is)
    (case kmk_Table => k_is)
    (case kkmk_Table => k_is)
    (case xc1_Table => k_is)
    (case xc3_Table => k_is)
    (case xn_Table_columns => k_is)
    (case xn_Table_rows => k_is)
    (case xc2 => k_is)
    (case xc4 => k_is)
    (case xtp_RowsError => k_is)
    (case xic_RowsError => k_is)
    (case xtp_Unknown => k_is)
    (case xic_Unknown => k_is)
    (case xtp_Impossible => k_is)
    (case xic_Impossible => k_is)
    (case xtp_BadOrder => k_is)
    (case xic_BadOrder => k_is)
    (case g1SC_BadOrder => k_is)
    (case g2SC_BadOrder => k_is)
    (case ksSC_BadOrder => ks_is)
    (case g4SC_BadOrder => k_is)
    (case g5SC_BadOrder => k_is)
    (case rfSC_BadOrder => first | rfl | decide +kernel)
    (case kxSC_BadOrder => kx_is)
    (case g6SC_BadOrder => k_is)
    (case rv_BadOrder_init => first | rfl | decide +kernel)
    (case rg_BadOrder_init => first | rfl | decide +kernel)
    (case xti_BadOrder => k_is)
    (case xxn_BadOrder_index => k_is)
    (case xk_BadOrder => k_is)
    (case xbp_BadOrder => k_is)
    (case xsv_BadOrder => k_is)
    (case xss_BadOrder => k_is)
    (case xsu_BadOrder_RowsError => k_is)
    (case xsu_BadOrder_Unknown => k_is)
    (case xsu_BadOrder_Impossible => k_is)
    (case xe1_BadOrder => k_is)
    (case xe2_BadOrder => k_is)
    (case xe3_BadOrder => k_is)
    (case xe4_BadOrder => k_is)
    (case xe5_BadOrder => k_is)
    (case r1cr_Table => k_is)
    (case r2cr_Table => k_is)
    (case xcv_Table_MOST_COLUMNS => k_is)
    (case xcv_Table_MOST_ROWS => k_is)
    (case xn_abs => k_is)
    (case xn_int => k_is)
    (case xn_isinstance => k_is)
    (case xn_range => k_is)
    (case xn_len => k_is)
    (case xn_str => k_is)
    (case xn_tuple => k_is)
    (case xn_list => k_is)
    (case xn_ValueError => k_is)
    (case xn_all => k_is)
    (case xn_max => k_is)
    (case xn_enumerate => k_is)
    (case xn_iter => k_is)
    (case xn_bool => k_is)
#print axioms PySem.Challenge.cw_unbrokenrows_k06_grids_holds
