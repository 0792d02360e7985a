import PyProof.Rows.All
import Wide.All
import OpenK.AllK
import Wide.FinOn
import HandS.Base
import HandS.Call
import HandS.List
import HandS.OwnEq
import HandS.Ends
import HandS.ClsMeth
import HandS.ExcOwn
import HandS.ExcIs
import HandS.TryOnly
import KE.KExcSuper
import HandS.ExcInit
import HandS.ExcField
import HandS.Words
import HandS.SortKw
import HandS.IterNext
import KE.DataMinMax
import KE.KExcIs
import KE.KExcLine
import HandS.OwnIter
import HandS.Walk
import KE.GoesMore
import KE.SortData
import HandS.SortRule
import HandS.IsInst
import HandS.WideBits
import HandS.ForMost
import HandS.Wide
import HandS.Defaults
import HandS.FStr
import HandS.Style
import HandS.StrMore
import HandS.Replace
import HandS.Text
import HandS.Codes
import HandS.WordsExc
import PyProof.StrBlock2
import PyProof.StrLawsChain
import PyProof.Rows.StrCut
import HandS.Star
import PySem.Challenge.RW_unbrokenrows_k24_steps_followed
set_option Elab.async false
set_option linter.all false
set_option maxRecDepth 100000
namespace My
open PySem PySem.Spec PyProof.Rows L2
section
variable {X : Cx} {CX : CXT} {n : Nat} {f C : Addr} {fd : FuncData} {ps : List Str} {sp : Sp} {E : XK}
/-- a promise, called anywhere in the running body -/
theorem call_at (G0 : FnOk X.prog X.w X.K X.mg X.base CX n f fd ps sp) (hb : Binds X.K fd ps []) (hx : Passes CX X E) {A : Around} (hr : Room n A) (hA : A.frames = X.A.frames)
    {pins : List (Addr × Obj)} {s : Shared} {σ : L2.St} {H : Hp} (I : Inv X pins σ H s) {vs : List V} {us : List Value} (r : Vals vs us) {Q : VK} (h : sp vs H Q E) :
    wpAny (model X.prog X.w) A (call (.ref f) us) (EP X pins σ Q) X.xe s := by
  have e0 : Env0 X.prog X.w X.K X.mg X.base A X.stack s H := by
    have e := I.env0
    exact ⟨by rw [hA]; exact e.frames, e.mod, e.bs, e.bsz, e.funs, e.frf, e.hok, e.bare⟩
  have hl := G0.len _ _ _ _ h
  refine wpAny_call (codeAny_mono (G0.run A X.stack s H ⟨us, []⟩ us vs Q E hr e0 (by
    have := hb s us I.kIn (by rw [List.append_nil, ← r.length]; exact hl)
    simpa using this) r h) fun r s' hq => ?_)
  cases r with
  | error e => exact hx pins σ H s e s' I hq
  | ok fl =>
    cases fl with
    | ret w => exact I.after hq
    | next => exact False.elim hq
    | brk => exact False.elim hq
    | cont => exact False.elim hq
theorem relV_noNI {v : V} {u : Value} (r : RelV v u) : u ≠ .notImplemented := by
  intro e
  subst e
  cases v <;> first | (cases r; done) | (obtain ⟨_, z⟩ := r; cases z)
theorem cmpBack_of {pins : List (Addr × Obj)} {σ : L2.St} {Q : VK} {v : Value} {s : Shared} (h : EP X pins σ Q v s) : PySem.W.CmpBack (EP X pins σ Q) v s := by
  obtain ⟨x, H', I', r, q⟩ := id h
  cases v <;> first | exact h | exact absurd rfl (relV_noNI r)
/-- x op y, both instances of the class at C, by its own method -/
def rOwn2 (C : Addr) (sp : Sp) (E : XK) : R2 := fun x y H Q => ∃ a b dx dy fs gs, x = .ref a ∧ y = .ref b ∧ H a = some (.ins C dx fs) ∧ H b = some (.ins C dy gs) ∧ sp [.ref a, .ref b] H Q E
theorem op_own2 {op : Operator} (G0 : FnOk X.prog X.w X.K X.mg X.base CX n f fd ps sp) (hb : Binds X.K fd ps []) (hx : Passes CX X E) (hr : Room n X.A)
    (hs : PySem.W.findIn X.K (.ref C) (PySem.dunder op.info.2) = some (some (.ref f))) (hf : PySem.W.isFn X.K (.ref f) = true) (hc : PySem.W.selfFirst X.K C = true) : OpR X (binaryOp op) (rOwn2 C sp E) := by
  intro pins s σ H x y v u Q I rx ry h
  obtain ⟨a, b, dx, dy, fs, gs, rfl, rfl, ha, hb', q⟩ := h
  cases rx
  cases ry
  obtain ⟨mA, J, _⟩ := ins_get I.hok ha
  obtain ⟨mB, J', _⟩ := ins_get I.hok hb'
  obtain ⟨od, J, _⟩ := J.look
  obtain ⟨od', J', _⟩ := J'.look
  obtain ⟨m, hF⟩ := I.fr
  refine PySem.W.binop_K hF I.ok.mod.kin J J'.type hc hs hf ?_
  exact wpAny_mono (call_at G0 hb hx hr rfl I (vs := [.ref a, .ref b]) (.cons rfl (.cons rfl .nil)) q) (fun v s' z => cmpBack_of z) fun _ _ z => z
/-- x op k, x such an instance, k a whole number -/
def rOwnI (C : Addr) (sp : Sp) (E : XK) : R2 := fun x y H Q => ∃ a dx fs k, x = .ref a ∧ y = .int k ∧ H a = some (.ins C dx fs) ∧ sp [.ref a, .int k] H Q E
theorem op_ownI {op : Operator} {fo ro rc : Option Value} (G0 : FnOk X.prog X.w X.K X.mg X.base CX n f fd ps sp) (hb : Binds X.K fd ps []) (hx : Passes CX X E) (hr : Room n X.A)
    (hs : PySem.W.findIn X.K (.ref C) (PySem.dunder op.info.2) = some (some (.ref f))) (hf : PySem.W.isFn X.K (.ref f) = true) (hc : PySem.W.selfFirst X.K C = true)
    (hrr : PySem.W.findIn X.K (.ref C) (dunderR op.info.2) = some rc) (hp : rc = none ∨ ∃ g : Addr, rc = some (.ref g))
    (h1 : PySem.W.findIn X.K (.type "int") (PySem.dunder op.info.2) = some fo) (h2 : PySem.W.findIn X.K (.type "int") (dunderR op.info.2) = some ro) (hsub : PySem.W.subIn X.K (.type "int") (.ref C) = some false) :
    OpR X (binaryOp op) (rOwnI C sp E) := by
  intro pins s σ H x y v u Q I rx ry h
  obtain ⟨a, dx, fs, k, rfl, rfl, ha, q⟩ := h
  cases rx
  obtain ⟨t, rfl⟩ := ry
  obtain ⟨mA, J, _⟩ := ins_get I.hok ha
  obtain ⟨od, J, _⟩ := J.look
  obtain ⟨m, hF⟩ := I.fr
  refine PySem.W.ksp_binT (T := "int") hF I.ok.mod.kin J rfl hc hs hf hrr hp h1 h2 hsub ?_
  exact wpAny_mono (call_at G0 hb hx hr rfl I (vs := [.ref a, .int k]) (.cons rfl (.cons ⟨_, rfl⟩ .nil)) q) (fun v s' z => cmpBack_of z) fun _ _ z => z
/-- one-place operators of such an instance -/
def rOwn1 (C : Addr) (sp : Sp) (E : XK) : V → Hp → VK → Prop := fun x H Q => ∃ a dx fs, x = .ref a ∧ H a = some (.ins C dx fs) ∧ sp [.ref a] H Q E
theorem un_own (G0 : FnOk X.prog X.w X.K X.mg X.base CX n f fd ps sp) (hb : Binds X.K fd ps []) (hx : Passes CX X E) (hr : Room n X.A)
    (hs : PySem.W.findIn X.K (.ref C) "__neg__" = some (some (.ref f))) (hf : PySem.W.isFn X.K (.ref f) = true) : UnR X (unaryOp .USub) (rOwn1 C sp E) := by
  intro pins s σ H x v Q I rx h
  obtain ⟨a, dx, fs, rfl, ha, q⟩ := h
  cases rx
  obtain ⟨mA, J, _⟩ := ins_get I.hok ha
  obtain ⟨od, J, _⟩ := J.look
  obtain ⟨m, hF⟩ := I.fr
  exact PySem.W.ksp_neg hF I.ok.mod.kin J hs hf (call_at G0 hb hx hr rfl I (vs := [.ref a]) (.cons rfl .nil) q)
/-- abs(x), bool(x) of such an instance -/
theorem call_absOwn (G0 : FnOk X.prog X.w X.K X.mg X.base CX n f fd ps sp) (hb : Binds X.K fd ps []) (hx : Passes CX X E) (hr : Room (n + 1) X.A)
    (hs : PySem.W.findIn X.K (.ref C) "__abs__" = some (some (.ref f))) (hf : PySem.W.isFn X.K (.ref f) = true) :
    CallR X (.builtin "abs") (fun xs H Q => ∃ a dx fs, xs = [V.ref a] ∧ H a = some (.ins C dx fs) ∧ sp [.ref a] H Q E) := by
  intro pins s σ H xs us Q I r h
  obtain ⟨a, dx, fs, rfl, ha, q⟩ := h
  obtain ⟨u, rfl, r1⟩ := vals1 r
  cases r1
  obtain ⟨mA, J, _⟩ := ins_get I.hok ha
  obtain ⟨od, J, _⟩ := J.look
  refine PySem.Calls.call_function_entry kind_abs plain_abs entry_abs (args_abs _) ?_
  unfold Builtin.«abs»
  refine wpAny_bind (m := oneArg "abs" _) (wpAny_pure ?_)
  refine wpAny_bind (m := callSpecial? (.ref a) (Str.ofString "__abs__")) (PySem.W.special_fn I.kIn J hs (beq_iff_eq.mp hf) ?_)
  refine wpAny_mono (call_at G0 hb hx (A := X.A.in1) hr.in1 rfl I (vs := [.ref a]) (.cons rfl .nil) q) (fun v s' z => ?_) fun _ _ z => z
  exact wpAny_pure ⟨_, rfl, z⟩
theorem meets_bool_own (prog : Program) (w : World) (l : Addr) : MeetsIn prog w (Builtin.«bool.__new__» ⟨[.type "bool", .ref l], []⟩)
    (fun A R s => wpAny (model prog w) A.in1 (truthy (.ref l)) (fun b s' => R (.ok (.ret (.bool b))) s') (fun e s' => R (.error e) s') s) := by
  intro A R s hs
  have f1 := F.conv_sub_bool
  unfold Builtin.«bool.__new__»
  dsimp only
  repeat (any_goals (first | assumption | (with_reducible refine wpAny_mono hs (fun b s' z => ?_) (fun _ _ z => z)) | wp_step))
  all_goals first | exact z | skip
theorem call_boolOwn (G0 : FnOk X.prog X.w X.K X.mg X.base CX n f fd ps sp) (hb : Binds X.K fd ps []) (hx : Passes CX X E) (hr : Room (n + 2) X.A)
    (hs : PySem.W.findIn X.K (.ref C) "__bool__" = some (some (.ref f))) (hf : PySem.W.isFn X.K (.ref f) = true) :
    CallR X (.type "bool") (fun xs H Q => ∃ a dx fs, xs = [V.ref a] ∧ H a = some (.ins C dx fs) ∧ sp [.ref a] H (fun v H' => ∃ k, v = .bl k ∧ Q v H') E) := by
  intro pins s σ H xs us Q I r h
  obtain ⟨a, dx, fs, rfl, ha, q⟩ := h
  obtain ⟨u, rfl, r1⟩ := vals1 r
  cases r1
  obtain ⟨mA, J, _⟩ := ins_get I.hok ha
  obtain ⟨od, J, _⟩ := J.look
  obtain ⟨m, hF⟩ := I.fr
  refine callType_newIn F.called_bool F.newNe_bool (F.typeCall_bool_1 _) (F.newCall_bool_1 _) (fun obj => F.args_object_init_2 obj _) F.entry_bool_new (meets_bool_own X.prog X.w a) ?_
  refine PySem.W.truthy_K hF I.ok.mod.kin J hs hf ?_
  refine wpAny_mono (call_at G0 hb hx (A := X.A.in1.in1) hr.in1.in1 rfl I (vs := [.ref a]) (.cons rfl .nil) q) (fun v s' z => ?_) fun _ _ z => z
  obtain ⟨x, H', I', r, k, rfl, q'⟩ := z
  cases r
  exact ⟨PySem.typeIs_bool _ _, .bl k, H', I', rfl, q'⟩
/-- == of two such instances -/
def rOwnEq (C : Addr) (sp : Sp) (E : XK) : R2 := fun x y H Q => ∃ a b dx dy fs gs, x = .ref a ∧ y = .ref b ∧ H a = some (.ins C dx fs) ∧ H b = some (.ins C dy gs) ∧ sp [.ref a, .ref b] H Q E
theorem op_eqOwn (G0 : FnOk X.prog X.w X.K X.mg X.base CX n f fd ps sp) (hb : Binds X.K fd ps []) (hx : Passes CX X E) (hr : Room n X.A)
    (hs : PySem.W.findIn X.K (.ref C) "__eq__" = some (some (.ref f))) (hf : PySem.W.isFn X.K (.ref f) = true) : OpR X (compareOp .Eq) (rOwnEq C sp E) := by
  intro pins s σ H x y v u Q I rx ry h
  obtain ⟨a, b, dx, dy, fs, gs, rfl, rfl, ha, hb', q⟩ := h
  cases rx
  cases ry
  obtain ⟨mA, J, _⟩ := ins_get I.hok ha
  obtain ⟨mB, J', _⟩ := ins_get I.hok hb'
  obtain ⟨od, J, _⟩ := J.look
  obtain ⟨od', J', _⟩ := J'.look
  obtain ⟨m, hF⟩ := I.fr
  show wpAny (model X.prog X.w) X.A (richCompare .Eq (.ref a) (.ref b)) (EP X pins σ Q) X.xe s
  refine PySem.W.cmp_K (op := .Eq) (tb := .ref C) hr.units0 hF I.ok.mod.kin J J'.type (by simp [PySem.W.notFirst]) hs hf ?_
  exact wpAny_mono (call_at G0 hb hx hr rfl I (vs := [.ref a, .ref b]) (.cons rfl (.cons rfl .nil)) q) (fun v s' z => cmpBack_of z) fun _ _ z => z
end
end My
set_option maxRecDepth 100000
namespace My
open PySem PySem.Spec PyProof.Rows L2
open ClX (CRead)
section
variable {X : Cx} {CX : CXT} {n k : Nat} {f C : Addr} {fd : FuncData} {ps : List Str} {sp : Sp} {E : XK}
/-- str(x) of an instance with its own __str__ -/
theorem call_strOwn (G0 : FnOk X.prog X.w X.K X.mg X.base CX n f fd ps sp) (hb : Binds X.K fd ps []) (hx : Passes CX X E) (hr : Room (n + 2) X.A)
    (hs : PySem.W.findIn X.K (.ref C) "__str__" = some (some (.ref f))) (hf : PySem.W.isFn X.K (.ref f) = true) :
    CallR X (.type "str") (fun xs H Q => ∃ a dx fs, xs = [V.ref a] ∧ H a = some (.ins C dx fs) ∧ sp [.ref a] H (fun v H' => ∃ z, v = .str z ∧ Q v H') E) := by
  intro pins s σ H xs us Q I r h
  obtain ⟨a, dx, fs, rfl, ha, q⟩ := h
  obtain ⟨u, rfl, r1⟩ := vals1 r
  cases r1
  obtain ⟨mA, J, _⟩ := ins_get I.hok ha
  obtain ⟨od, J, _⟩ := J.look
  refine PySem.W.kso_call (hr.in1.in1.units0) I.kIn J hs hf ?_
  refine wpAny_mono (call_at G0 hb hx (A := X.A.in1.in1) hr.in1.in1 rfl I (vs := [.ref a]) (.cons rfl .nil) q) (fun v s' z => ?_) fun _ _ z => z
  obtain ⟨x, H', I', r, y, rfl, q'⟩ := z
  obtain ⟨t, rfl⟩ := r
  exact ⟨.str y, H', I', ⟨_, rfl⟩, q'⟩
/-- C.m is a staticmethod: its record at p, its def at g -/
structure SMet (K : PySem.W.Frag) (C : Addr) (mc : Value) (m : Str) (p g : Addr) : Prop where
  at_ : PySem.W.findCls K (.ref C) mc m = some (.get (.builtin "staticmethod.__get__") (.ref p) .none (.ref C))
  rc : ∃ rest, PySem.W.recIn K p "staticmethod" = some (.ref g :: rest)
  kp : PySem.W.keepIn K (.ref g) = true
theorem getmethsm_ok {pins : List (Addr × Obj)} {σ : L2.St} {H : Hp} {s : Shared} {p g : Addr} {mc : Value} {m : Str} {A : Around} {E : Value → Shared → Prop} {pl : Sem Bool} {Q : Value × List Value → Shared → Prop} (I : Inv X pins σ H s) (r : CRead X.K C mc) (k : SMet X.K C mc m p g)
    (h : ∀ s', Inv X pins σ H s' → Q (.ref g, []) s') : wpAny (model X.prog X.w) A (getMethod (.ref C) m pl) Q E s := by
  refine PySem.W.method_cls I.kIn r.ga ?_
  obtain ⟨rest, hp⟩ := k.rc
  refine PySem.W.cls_bind I.kIn r.rd k.at_ ?_
  refine wpAny_call (PySem.W.sm_get (s := { s with toks := s.toks + 1 }) I.kIn hp (PySem.W.handed_on rfl ?_))
  exact h _ (I.tok _)
/-- C.m(e, ..), m a staticmethod of the class at C -/
def tSMeth (C : Addr) (sp : Sp) (dvs : List V) (E : XK) (ta : TE) (t : TA) : TE := fun σ H Q => ta σ H fun x H1 => x = .ref C ∧ t σ H1 fun vs H2 => sp (vs ++ dvs) H2 Q E
theorem pe_smeth {o e : Expr} {es : List Expr} {p g : Addr} {mc : Value} {m : Str} {pos apos : Pos} {ta : TE} {t : TA} {pl : Sem Bool} {ds : List Value} {dvs : List V} (he : PE X o ta) (r : CRead X.K C mc) (c : SMet X.K C mc m p g)
    (G0 : FnOk X.prog X.w X.K X.mg X.base CX k g fd ps sp) (hr : Room k X.A) (hb : Binds X.K fd ps ds) (hd : Vals dvs ds) (hx : Passes CX X E) (ha : PA X (e :: es) t)
    (hst : starEach (e :: es) X.env = (false, eval e X.env) :: starEach es X.env := by rfl) (hpl : (backTo pos (starEach es X.env)).any (·.1) = false := by rfl)
    (ht : eval (.Call (.Attribute o m apos) (e :: es) [] pos) X.env = (do
      let ov ← eval o X.env
      standAt apos.atName
      let (f, first) ← holding [ov] (getMethod ov m pl)
      callWith pos f first (backTo pos (starEach (e :: es) X.env)) (backToKw pos (keywordEach [] X.env))) := by rfl) :
    PE X (.Call (.Attribute o m apos) (e :: es) [] pos) (tSMeth C sp dvs E ta t) := by
  refine ⟨fun pins s σ H Q I h => ?_⟩
  refine PySem.W.methodCall_KW (pl := pl) (thn (he.run pins s σ H _ I h) fun u s1 ⟨x, H1, I1, rx, ex, q⟩ => ?_) ht
  subst ex
  obtain rfl : u = Value.ref C := rx
  refine getmethsm_ok I1 r c fun s2 I2 => ?_
  refine PySem.W.callWith_K (h₀ := X.base) I2.ok.mod.kin c.kp (thn (ha.run pos pins s2 σ H1 _ I2 q) fun us s3 ⟨vs, H2, I3, r3, q3⟩ => ⟨I3.kIn, ?_⟩) hst hpl
  exact run_fn G0 hr hb hd hx I3 r3 q3
/-- C(e, ..) where what its __init__ raises is wished for -/
def tMakeS (C : Addr) (sp : Sp) (E : L2.St → XK) (t : TA) : TE := fun σ H Q => t σ H fun vs H1 => ∀ x dx, H1 x = none → H1 dx = none → dx ≠ x →
  sp (.ref x :: vs) (upd (upd H1 dx (.own x)) x (.ins C dx [])) (fun v H2 => v = .non ∧ Q (.ref x) H2) (E σ)
theorem run_makeS {E : L2.St → XK} {pins : List (Addr × Obj)} {σ : L2.St} {H : Hp} {s : Shared} {Q : VK} {us : List Value} {vs : List V} (M : Mk X.K C f) (G0 : FnOk X.prog X.w X.K X.mg X.base CX k f fd ps sp) (hr : Room (k + 1) X.A) (hb : Binds X.K fd ps [])
    (hx : PassesAt CX X σ (E σ)) (I : Inv X pins σ H s) (r : Vals vs us)
    (h : ∀ x dx, H x = none → H dx = none → dx ≠ x → sp (.ref x :: vs) (upd (upd H dx (.own x)) x (.ins C dx [])) (fun v H2 => v = .non ∧ Q (.ref x) H2) (E σ)) :
    wpAny (model X.prog X.w) X.A (call (.ref C) us) (EP X pins σ Q) X.xe s := by
  have hq := h (s.heap.objs.size + 1) s.heap.objs.size (I.hok.fresh (Nat.le_succ _)) (I.hok.fresh (Nat.le_refl _)) (Nat.ne_of_lt (Nat.lt_succ_self _))
  have I2 := Inv.made (C := C) I
  have r2 : Vals (V.ref (s.heap.objs.size + 1) :: vs) (Value.ref (s.heap.objs.size + 1) :: us) := .cons rfl r
  have hl : (Value.ref (s.heap.objs.size + 1) :: us).length = ps.length := by
    have e := r2.length
    rw [G0.len _ _ _ _ hq] at e
    exact e.symm
  have b := hb _ (Value.ref (s.heap.objs.size + 1) :: us) I2.kIn (by rw [List.append_nil]; exact hl)
  rw [List.append_nil] at b
  refine wpAny_call (make_map (f := f) I.kIn M.makes M.init (beq_iff_eq.mp M.fn) (codeAny_mono (G0.run _ X.stack _ _ ⟨Value.ref (s.heap.objs.size + 1) :: us, []⟩ (Value.ref (s.heap.objs.size + 1) :: us) _ _ (E σ) (hr.make C us [])
    (I2.env0.make C us []) b r2 hq) fun r s' hq' => ?_))
  cases r with
  | error e => exact hx pins _ _ e s' I2 hq'
  | ok fl =>
    cases fl with
    | ret u =>
      obtain ⟨v, H', I3, rv, ev, q3⟩ := I2.after hq'
      subst ev
      exact ⟨rv, ⟨V.ref (s.heap.objs.size + 1), H', I3, rfl, q3⟩⟩
    | next => exact False.elim hq'
    | brk => exact False.elim hq'
    | cont => exact False.elim hq'
theorem pe_makeS {E : L2.St → XK} {x : Str} {p pos : Pos} {e : Expr} {es : List Expr} {t : TA} (M : Mk X.K C f) (G0 : FnOk X.prog X.w X.K X.mg X.base CX k f fd ps sp) (hr : Room (k + 1) X.A) (hg : Gl X x) (hm : X.mg x = some (.ref C)) (hb : Binds X.K fd ps []) (hx : ∀ σ, PassesAt CX X σ (E σ))
    (ha : PA X (e :: es) t) (hdb : (x == ("__debug__" : Str)) = false := by decide) (he : starEach (e :: es) X.env = (false, eval e X.env) :: starEach es X.env := by rfl) (hpl : (backTo pos (starEach es X.env)).any (·.1) = false := by rfl) :
    PE X (.Call (.Name x p) (e :: es) [] pos) (tMakeS C sp E t) := by
  refine ⟨fun pins s σ H Q I h => ?_⟩
  refine wpAny_Call_Name_kw (ld_glob I hg hm ?_ hdb)
  refine PySem.W.callWith_K (h₀ := X.base) I.ok.mod.kin M.kp (thn (ha.run pos pins s σ H _ I h) fun us s1 ⟨vs, H1, I1, r, q⟩ => ⟨I1.kIn, ?_⟩) he hpl
  exact run_makeS M G0 hr hb (hx σ) I1 r q
end
/-- isinstance(e, c) in an except suite of any error -/
theorem call_isEx {X : Cx} {a : Addr} {oe : Obj} {cls : Value} {d : Option Addr} {pn : List (Addr × Obj)} (hz : Zc cls d oe) (hf : ∃ vs, oe.data = .fields vs) :
    CallR (X.suite a ((a, oe) :: pn)) (.builtin "isinstance") (fun xs H Q => ∃ D, cls = .ref D ∧ d = none ∧ ExcC X.K D ∧ rIsE X.K D a xs H Q) := by
  intro pins s σ H xs us Q I r h
  obtain ⟨D, rfl, rfl, c, q⟩ := h
  exact call_isE c hz hf pins s σ H xs us Q I r q
/-- an own class against an own class, against a built-in one -/
theorem kit_own {K : PySem.W.Frag} {C D : Addr} {b : Bool} (hi : PySem.W.isClsIn K D = true) (ht : PySem.W.typeIn K (.ref D) = some (.type "type")) (hs : PySem.W.subIn K (.ref C) (.ref D) = some b) (hne : C ≠ D ∨ b = true) : PySem.W.kitOne K (.ref C) (.ref D) = some b := by
  unfold PySem.W.kitOne
  by_cases e : C = D
  · rcases hne with h | h
    · exact absurd e h
    · rw [if_pos (by rw [e]; simp), h]
  · rw [if_neg (by simp [e])]
    show (if ((PySem.W.clsIn K D).isSome && PySem.W.typeIn K (.ref D) == some (.type "type")) = true then _ else _) = _
    rw [if_pos (by
      rw [ht]
      have : (PySem.W.clsIn K D).isSome = true := hi
      rw [this]; simp)]
    exact hs
theorem kit_ownT {K : PySem.W.Frag} {C : Addr} {T : String} {b : Bool} (hm : PySem.W.kitMeta T = true) (hs : PySem.W.subIn K (.ref C) (.type T) = some b) : PySem.W.kitOne K (.ref C) (.type T) = some b := by
  unfold PySem.W.kitOne PySem.W.kitCls
  rw [if_neg (by simp)]
  show (if PySem.W.kitMeta T = true then _ else _) = _
  rw [if_pos hm]
  exact hs
end My
set_option maxRecDepth 100000
set_option maxHeartbeats 1000000
/-! own exceptions whose __init__ says super().__init__(text) and then stores its fields -/
namespace My
open PySem PySem.Spec PyProof.Rows L2
/-- the names of such a def: its parameters are local, nothing is a cell, __class__ alone is free -/
structure SupScope (N ps : List Str) (sc : Scope) : Prop where
  kind : sc.kind = .function
  co : sc.isCoroutine = false
  gen : sc.isGenerator = false
  nd : ps.Nodup
  eqN : N = ps
  par : ∀ x ∈ ps, sc.names.lookup x = some .local
  nocell : ∀ y ∈ sc.names, y.2 ≠ .cell
  free : ∀ y ∈ sc.names, y.2 = .free → y.1 = "__class__"
  ks : sc.names.lookup ("super" : Str) = some .globalImplicit
  kc : sc.names.lookup ("__class__" : Str) = some .free
/-- the context of its body -/
def cxSup (CX : CXT) (P : Program) (w : World) (K : PySem.W.Frag) (mg : Str → Option Value) (base : Heap) (N : List Str) (qual : Str) (scope : Scope) (f : Addr) (cd : Value) (cc : Addr) (A : Around) (outer : List Env) (s : Shared) (H : Hp) (E : XK) : Cx where
  prog := P
  w := w
  K := K
  mg := mg
  base := base
  A := A.deeper (PySem.W.ksEnv qual scope s.heap.objs.size f cd cc)
  N := N
  s_0 := s
  H_0 := H
  env := PySem.W.ksEnv qual scope s.heap.objs.size f cd cc
  outer := outer
  stack := PySem.W.ksEnv qual scope s.heap.objs.size f cd cc :: outer
  ex := []
  calm := true
  fn := fun _ => false
  pn := []
  xe := fun e s' => wpAny (model P w) (A.deeper (PySem.W.ksEnv qual scope s.heap.objs.size f cd cc)) (leaving (PySem.W.ksEnv qual scope s.heap.objs.size f cd cc) e) (fun _ s'' => CX outer H s E e s'') (fun e' s'' => CX outer H s E e' s'') s'
theorem lookup_of_mem {l : List (Str × Value)} {y : Str} {u : Value} (nd : (l.map (·.1)).Nodup) (h : (y, u) ∈ l) : l.lookup y = some u := by
  induction l with
  | nil => cases h
  | cons p r ih =>
    obtain ⟨z, v⟩ := p
    rw [List.map_cons, List.nodup_cons] at nd
    rcases List.mem_cons.mp h with e | e
    · cases e; simp [List.lookup]
    · have hne : y ≠ z := fun q => nd.1 (by rw [← q]; exact List.mem_map.mpr ⟨_, e, rfl⟩)
      have : (y == z) = false := by simpa using hne
      simp only [List.lookup, this]
      exact ih nd.2 e
theorem map_fst_zip_sub : ∀ (ps : List Str) (us : List Value), ((ps.zip us).map (·.1)).Sublist ps
  | [], _ => by simp
  | _ :: _, [] => by simp
  | p :: ps, u :: us => by simpa using map_fst_zip_sub ps us
theorem nd_rev {l : List Str} (h : l.Nodup) : l.reverse.Nodup := by
  induction l with
  | nil => simp
  | cons a t ih =>
    rw [List.nodup_cons] at h
    rw [List.reverse_cons, List.nodup_append]
    exact ⟨ih h.2, by simp, fun x hx y hy e => h.1 (by simp at hy; rw [← hy, ← e]; simpa using hx)⟩
theorem zip_lookup {ps : List Str} {us : List Value} {i : Nat} {y : Str} {u : Value} (nd : ps.Nodup) (h1 : ps[i]? = some y) (h2 : us[i]? = some u) : (ps.zip us).reverse.lookup y = some u := by
  refine lookup_of_mem ?_ ?_
  · rw [List.map_reverse]
    have : ((ps.zip us).map (·.1)).Nodup := by
      exact nd.sublist (map_fst_zip_sub ps us)
    exact nd_rev this
  · rw [List.mem_reverse]
    have : (ps.zip us)[i]? = some (y, u) := by rw [List.getElem?_zip_eq_some]; exact ⟨h1, h2⟩
    exact List.mem_of_getElem? this
section
variable {CX : CXT} {P : Program} {w : World} {K : PySem.W.Frag} {mg : Str → Option Value} {base : Heap} {N ps : List Str} {qual : Str} {scope : Scope} {f cc : Addr} {cd : Value} {A : Around} {outer : List Env} {s : Shared} {H : Hp} {E : XK}
theorem env_cells {x : Str} {c : Addr} {L : Addr} (h : (PySem.W.ksEnv qual scope L f cd cc).cells.lookup x = some c) : x = "__class__" ∧ c = cc := by
  have h' : ([(("__class__" : Str), cc)] : List (Str × Addr)).lookup x = some c := h
  by_cases e : x = "__class__"
  · subst e
    simp [List.lookup] at h'
    exact ⟨rfl, h'.symm⟩
  · have : (x == ("__class__" : Str)) = false := by simpa using e
    simp [List.lookup, this] at h'
theorem inv_sup {us : List Value} {vs : List V} {h1 : Heap} {t : Nat} {cl : Value} {cld : Option Addr} {cv : Option Value} {csl : Array (Option Value)} (S : SupScope N ps scope) (hd : A.handled = none) (e0 : Env0 P w K mg base A outer s H) (hl : vs.length = ps.length) (r : Vals vs us)
    (hcell : K.lookup cc = some ⟨cl, cld, .cell cv, csl⟩)
    (hns : h1.Ns s.heap.objs.size (fun x => (ps.zip us).reverse.lookup x)) (hk : ∀ b o, s.heap.get? b = some o → h1.get? b = some o) :
    Inv (cxSup CX P w K mg base N qual scope f cd cc A outer s H E) [] (L2.start N vs) H { s with heap := h1, toks := t } := by
  have noA : ∀ b : Addr, b ∉ (cxSup CX P w K mg base N qual scope f cd cc A outer s H E).ex := fun b z => absurd (show b ∈ ([] : List Addr) from z) (by simp)
  have hcb := e0.mod.kin _ _ hcell
  refine ⟨⟨e0.mod, S.kind, rfl, rfl, Nat.le_refl _, fun y z c h1 h2 => (env_cells h1).1.trans (env_cells h2).1.symm, fun y hy => ?_, fun y c h _ => absurd h Bool.false_ne_true, fun _ => hd, Around.frames_deeper e0.frames, .inr ⟨rfl, rfl⟩, fun b z => absurd z (noA b), e0.bs, e0.bsz, fun b _ _ => noA b, fun b z => absurd z (noA b), e0.funs, e0.frf⟩,
    rfl, e0.bare, Un.kept hk, ⟨_, hns, fun i y v h1 h2 h3 => ?_⟩, fun y c h => ?_, e0.hok.fresh (Nat.le_refl _), fun y c h => ?_, fun p hp => absurd (show p ∈ ([] : List (Addr × Obj)) from hp) (by simp), e0.hok.kept hk, ?_⟩
  · have hy : scope.names.lookup y = some .cell ∨ scope.names.lookup y = some .free := hy
    rcases hy with hy | hy
    · exact absurd rfl (S.nocell _ (PySem.mem_of_lookup hy))
    · have e := S.free _ (PySem.mem_of_lookup hy) rfl
      refine ⟨cc, ?_⟩
      show ([(("__class__" : Str), cc)] : List (Str × Addr)).lookup y = some cc
      have e' : y = "__class__" := e
      rw [e']
      simp [List.lookup]
  · have hlen : N.length = vs.length := by rw [S.eqN, hl]
    have e2 : L2.start N vs = vs.map some := by unfold L2.start; rw [hlen, Nat.sub_self]; simp
    rw [e2, List.getElem?_map] at h2
    cases ea : vs[i]? with
    | none => rw [ea] at h2; cases h2
    | some a =>
      rw [ea] at h2
      cases h2
      obtain ⟨u, hu, rv⟩ := r.get ea
      have hp : ps[i]? = some y := by rw [← S.eqN]; exact h1
      exact ⟨u, rv, .inl ⟨S.par y (List.mem_of_getElem? hp), zip_lookup S.nd hp hu⟩⟩
  · obtain ⟨rfl, rfl⟩ := env_cells h
    exact ⟨cv, _, hk _ _ (e0.bs _ _ hcb).1, rfl⟩
  · obtain ⟨rfl, rfl⟩ := env_cells h
    exact (e0.bs _ _ hcb).2
  · unfold L2.start
    show _ = N.length
    rw [List.length_append, List.length_map, List.length_replicate, S.eqN]
    omega
end
open PySem.W (ksFn ksEnv)
/-- what the written part says of such a class -/
structure SupCls (P : Program) (K : PySem.W.Frag) (mg : Str → Option Value) (C : Addr) : Prop where
  cd : ∃ cd, PySem.W.clsIn K C = some cd
  mro : PySem.W.mroIn K C (.ref C) = some true
  sup : PySem.W.ks_superIn K C C "__init__" = some (some (.builtin "ValueError.__init__"))
  opq : PySem.W.nsIn K PySem.cStatics "thirdparty.any" = some none
  ve : PySem.W.subIn K (.ref C) (.type "ValueError") = some true
  mgs : mg "super" = none
  top : (P.main.scope.names.lookup ("super" : Str)).isSome = false
  ox : OexC K C
/-- and of its __init__ -/
structure SupFn (P : Program) (K : PySem.W.Frag) (st : Stmt) (qual : Str) (C f : Addr) (fd : FuncData) : Prop where
  ex : ∃ (oc : Value) (od : Option Addr) (kV doc pm : Value) (an : Option Addr) (cda : Addr) (ct : Value) (cc : Addr) (sl : Array (Option Value)),
    fd = ksFn "__init__" qual (defArgs st) (defBody st) (defScope st) .none kV doc pm an (.ref cda) ct cc ∧ K.lookup f = some ⟨oc, od, .func fd, sl⟩ ∧ PySem.W.codeIn K (.ref cda) qual = true ∧
    (∃ (a : Value) (b : Option Addr) (vs : Array Value) (d : Array (Option Value)) (file : Str) (tf : Tok), K.lookup cda = some ⟨a, b, .fields vs, d⟩ ∧ vs[2]? = some (.str file tf) ∧ ((P.main.file : Str) == file) = true) ∧
    ∃ (a : Value) (b : Option Addr) (d : Array (Option Value)), K.lookup cc = some ⟨a, b, .cell (some (.ref C)), d⟩
section
variable {CX : CXT} {P : Program} {w : World} {K : PySem.W.Frag} {mg : Str → Option Value} {base : Heap} {N ps : List Str} {qual : Str} {scope : Scope} {f cc cda C a : Addr} {A : Around} {outer : List Env} {s0 : Shared} {H0 : Hp} {E : XK}
variable {oc : Value} {od : Option Addr} {fd : FuncData} {sl : Array (Option Value)} {vs : Array Value} {file : Str} {tf : Tok}
theorem mw_call {X : Cx} {pins : List (Addr × Obj)} {σ : L2.St} {H : Hp} {s : Shared} {u : Addr} {us : List Value} {Q : Value → Shared → Prop} {B : Around} {EE : Value → Shared → Prop} (T : OexC X.K C) (I : Inv X ((u, PySem.W.kxs_mw "ValueError.__init__" a) :: pins) σ H s)
    (ea : H a = some (exo a C none)) (hz : us.length ≤ sizeLine) (q : ∀ s', Inv X ((u, PySem.W.kxs_mw "ValueError.__init__" a) :: pins) σ H s' → Q .none s') :
    wpAny (model X.prog X.w) B (call (.ref u) us) Q EE s := by
  obtain ⟨nm, q0, N0, bs, bm, sn, sub, ab, col, dd, k0, k1, k2, k3, k5, hC, hbm⟩ := T.cls
  obtain ⟨t1, ho⟩ := exo_at I.hok ea
  have hu := ClX.pin_at I
  have KX := I.kIn
  have eu : upd H a (exo a C none) = H := by
    funext b
    by_cases hb : b = a
    · rw [hb, upd_same, ea]
    · rw [upd_ne hb]
  have T1 : (Value.type "method-wrapper" == Value.type "method" || Value.type "method-wrapper" == Value.type "builtin_function_or_method" || Value.type "method-wrapper" == Value.type "method-wrapper") = true := by decide
  obtain ⟨hp, g, d, t, os⟩ := s
  refine wpAny_call (codeAny_of_tree ?_)
  show wpAny _ _ (callAny (.ref u) ⟨us, []⟩) _ _ _
  unfold callAny
  refine wpAny_bind (wpAny_load hu ?_)
  simp only [PySem.W.kxs_mw, T1, if_true]
  refine PySem.W.KFB.if_so (by decide) ?_
  refine wpAny_bind (PySem.W.check_bound_init F.excBase_ValueError.toExcCallFacts (KX _ _ hC) ho rfl ?_)
  refine wpAny_bind (wpAny_pure (wpAny_pure ⟨PySem.plainId_quiet F.excBase_ValueError.init.plain _, codeAny_builtin F.excBase_ValueError.initEntry ?_⟩))
  refine PySem.W.exc_init_tree (cls := .ref C) (t0 := t1) (dv := none) (c2 := .none) (c3 := .none) (b4 := .bool false) ho hz fun h' k e1 _ => ?_
  have J := I.write (t' := t) (x := a) (e := a) (o := exo a C none) (by rw [ea]; exact True.intro) (.inl rfl) k ⟨_, e1⟩ (exo_ok e1)
  rw [eu] at J
  exact q _ J

/-- super().__init__(e, ..) at the head of the body -/
theorem sup_run {an : Option Addr} {kV doc pm ct : Value} {body : List Stmt} {args : Arguments} {σ : L2.St} {H : Hp} {s : Shared} {ta : TA} {e : Expr} {es : List Expr} {p0 p1 p2 p3 p4 : Pos} {ar : Arg} {Q : Flow → Shared → Prop}
    (S : SupScope N ps scope) (D : SupCls P K mg C)
    (lk : K.lookup f = some ⟨oc, od, .func (ksFn "__init__" qual args body scope .none kV doc pm an (.ref cda) ct cc), sl⟩) (har : (args.posonlyargs ++ args.args).head? = some ar)
    (lc : ∃ (a : Value) (b : Option Addr) (vs : Array Value) (d : Array (Option Value)) (file : Str) (tf : Tok), K.lookup cda = some ⟨a, b, .fields vs, d⟩ ∧ vs[2]? = some (.str file tf) ∧ ((P.main.file : Str) == file) = true)
    (lq : ∃ (a : Value) (b : Option Addr) (d : Array (Option Value)), K.lookup cc = some ⟨a, b, .cell (some (.ref C)), d⟩)
    (I : Inv (cxSup CX P w K mg base N qual scope f (.ref cda) cc A outer s0 H0 E) [] σ H s) (h0 : σ[0]? = some (some (.ref a))) (hN : N[0]? = some ar.arg) (hloc : scope.names.lookup ar.arg = some .local)
    (ea : H a = some (exo a C none)) (hes : PA (cxSup CX P w K mg base N qual scope f (.ref cda) cc A outer s0 H0 E) (e :: es) ta)
    {R : Hp → Prop} (q : ta σ H fun us H1 => us.length ≤ 1000 ∧ H1 a = some (exo a C none) ∧ R H1)
    (cont : ∀ H1 s', R H1 → Inv (cxSup CX P w K mg base N qual scope f (.ref cda) cc A outer s0 H0 E) [] σ H1 s' → Q .next s')
    (he : starEach (e :: es) (ksEnv qual scope s0.heap.objs.size f (.ref cda) cc) = (false, eval e (ksEnv qual scope s0.heap.objs.size f (.ref cda) cc)) :: starEach es (ksEnv qual scope s0.heap.objs.size f (.ref cda) cc))
    (hpl : (backTo p3 (starEach es (ksEnv qual scope s0.heap.objs.size f (.ref cda) cc))).any (·.1) = false) 
    (hsw : swapsWith (.Call (.Attribute (.Call (.Name "super" p0) [] [] p1) "__init__" p2) (e :: es) [] p3) none p4.line (ksEnv qual scope s0.heap.objs.size f (.ref cda) cc) = pure false)
    {pl : Sem Bool} (hcall : eval (.Call (.Attribute (.Call (.Name "super" p0) [] [] p1) "__init__" p2) (e :: es) [] p3) (ksEnv qual scope s0.heap.objs.size f (.ref cda) cc) = (do
      let ov ← attributeBase (.Call (.Name "super" p0) [] [] p1) "__init__" (ksEnv qual scope s0.heap.objs.size f (.ref cda) cc) (eval (.Call (.Name "super" p0) [] [] p1) (ksEnv qual scope s0.heap.objs.size f (.ref cda) cc))
      standAt p2.atName
      let (fx, first) ← holding [ov] (getMethod ov "__init__" pl)
      callWith p3 fx first (backTo p3 (starEach (e :: es) (ksEnv qual scope s0.heap.objs.size f (.ref cda) cc))) []))
    (B : List Stmt) :
    PySem.wpAt (model P w) (A.deeper (ksEnv qual scope s0.heap.objs.size f (.ref cda) cc)) (.func B (ksEnv qual scope s0.heap.objs.size f (.ref cda) cc))
      (exec (.Expr (.Call (.Attribute (.Call (.Name "super" p0) [] [] p1) "__init__" p2) (e :: es) [] p3) p4) (ksEnv qual scope s0.heap.objs.size f (.ref cda) cc)) Q (cxSup CX P w K mg base N qual scope f (.ref cda) cc A outer s0 H0 E).xe s := by
  have KX : K.In s.heap := I.kIn
  obtain ⟨t1, hoe⟩ := exo_at I.hok ea
  obtain ⟨m, hn, hl⟩ := I.loc
  obtain ⟨u, ru, look⟩ := hl 0 ar.arg (.ref a) hN h0 (Or.inl hloc)
  obtain rfl : u = Value.ref a := ru
  have hm : m ar.arg = some (.ref a) := by
    rcases look with z | ⟨z, _⟩
    · exact z.2
    · have z : scope.names.lookup ar.arg = some .cell ∨ scope.names.lookup ar.arg = some .free := z
      rw [hloc] at z
      rcases z with z | z <;> cases z
  obtain ⟨c1, c2, vs, c3, file, tf, hcode, hvs, hfile⟩ := lc
  obtain ⟨c4, c5, c6, hcell⟩ := lq
  obtain ⟨cd, hcd⟩ := D.cd
  obtain ⟨mb, hb1, hb2⟩ := I.mod.blt
  obtain ⟨oD, hD1, hD2⟩ : ∃ oD, s.heap.get? C = some oD ∧ oD.data = .cls cd := by
    unfold PySem.W.clsIn at hcd
    split at hcd
    · rename_i ho
      cases hcd
      exact ⟨_, KX _ _ ho, rfl⟩
    · cases hcd
  obtain ⟨hh, g, d, t, os⟩ := s
  refine ks_wpAt_Expr_any ?_ I.quiet hsw
  refine ks_wpAt_MethodCall (he := hcall) ?_
  refine ks_wpAt_super_base (ar := ar) S.ks S.kc rfl rfl (KX _ _ lk) rfl har rfl (KX _ _ hcode) rfl hvs hfile D.top ?_
  refine PySem.W.ks_loadName_global S.kind S.ks (Calls.loadGlobal_builtin (I.mod.glob.keeps I.bk) D.mgs (hb1.keeps I.bk) ((hb2 _ (by decide)).trans PyProof.Rows.Boot.«super») ⟨rfl, ?_⟩)
  refine wpAny_loadName_free S.kind S.kc rfl ⟨_, KX _ _ hcell, rfl⟩ ?_
  refine wpAny_loadName_local S.kind hloc hn hm ?_
  refine ks_wpAny_isType_cls hD1 hD2 ⟨rfl, ?_⟩
  refine ks_wpAny_call_super hD1 hD2 hoe rfl (fun c z => by cases z) (PySem.W.looks_mroIn KX D.mro) (fun h' e1 k => ?_)
  have I1 := ClX.pin_new (t' := t) I k (Nat.le_refl _) e1 (fun v z => by cases z)
  have KX1 : K.In h' := I1.kIn
  have hca : a ≠ C := fun z => by
    subst z
    rw [hoe] at hD1
    cases hD1
    cases hD2
  have hsI : PySem.W.Looks (model P w) h' (isInstance (.ref a) (.type "ValueError")) true := by
    have II : PySem.W.InstAt h' a _ C none := ⟨k _ _ hoe, rfl, rfl, trivial⟩
    exact II.type.andThen (PySem.W.looks_subIn KX1 D.ve)
  have hsup := D.sup
  unfold PySem.W.ks_superIn at hsup
  rw [hcd] at hsup
  refine PySem.W.kxs_getMethod PySem.W.kxs_ValueError e1 (PySem.W.looks_opaque KX1 D.opq) (l₀ := cd.mro) (fun A Q E s k q => wpAny_bind ((PySem.W.looks_clsIn KX1 hcd) A _ E s k (wpAny_pure q))) rfl KX1 hsup hsI hca rfl ?_
  have I2 := ClX.pin_new (t' := t + 1) I1 (h' := h'.push (PySem.W.kxs_mw "ValueError.__init__" a)) (o := PySem.W.kxs_mw "ValueError.__init__" a) (fun b o z => Heap.get?_push_of_some _ z) (Nat.le_refl _) (Heap.get?_push_at rfl rfl) (fun v z => by cases z)
  dsimp only
  rw [he]
  refine PySem.W.kxs_callWith (i := "ValueError.__init__") (x := a) (by show (false || (backTo p3 (starEach es _)).any (·.1)) = false; rw [hpl]; rfl) (Calls.evalArgs_plain ?_)
  have run := hes.run p3 _ _ σ H _ I2 q
  rw [show starEach (e :: es) (cxSup CX P w K mg base N qual scope f (.ref cda) cc A outer s0 H0 E).env = _ from he] at run
  refine thn run fun us s1 ⟨xs, H1, I3, r1, hz, ea1, q1⟩ => ⟨ClX.pin_at I3, ?_⟩
  have hlen : us.length ≤ sizeLine := by
    rw [← Paired.length r1, sizeLine_eq]
    omega
  exact mw_call D.ox I3 ea1 hlen fun s' J => cont _ s' q1 (ClX.unpin (ClX.unpin J))

/-- such an __init__, by what it says behind super() -/
theorem sup_ok {st : Stmt} {fd : FuncData} {k : Nat} {sp : Sp} {body : List Stmt} {e : Expr} {p0 p1 p2 p3 p4 : Pos} {ar : Arg} {pl : Sem Bool} (F : SupFn P K st qual C f fd) (S : SupScope N ps (defScope st)) (D : SupCls P K mg C)
    (hb : defBody st = .Expr (.Call (.Attribute (.Call (.Name "super" p0) [] [] p1) "__init__" p2) [e] [] p3) p4 :: body) (har : ((defArgs st).posonlyargs ++ (defArgs st).args).head? = some ar) (hN : N[0]? = some ar.arg)
    (he : ∀ env : Env, starEach [e] env = [(false, eval e env)])
    (hsw : ∀ env : Env, swapsWith (.Call (.Attribute (.Call (.Name "super" p0) [] [] p1) "__init__" p2) [e] [] p3) none p4.line env = pure false)
    (hcall : ∀ env : Env, eval (.Call (.Attribute (.Call (.Name "super" p0) [] [] p1) "__init__" p2) [e] [] p3) env = (do
      let ov ← attributeBase (.Call (.Name "super" p0) [] [] p1) "__init__" env (eval (.Call (.Name "super" p0) [] [] p1) env)
      standAt p2.atName
      let (fx, first) ← holding [ov] (getMethod ov "__init__" pl)
      callWith p3 fx first (backTo p3 (starEach [e] env)) []))
    (len : ∀ vs H Q E, sp vs H Q E → vs.length = ps.length)
    (hbody : ∀ (cda : Value) (cc : Addr) (A : Around) (outer : List Env) (s : Shared) (H : Hp) (vs : List V) (Q : VK) (E : XK), Room k (A.deeper (ksEnv qual (defScope st) s.heap.objs.size f cda cc)) → sp vs H Q E →
      ∃ (a : Addr) (te : TE) (t : TS), vs[0]? = some (.ref a) ∧ H a = some (exo a C none) ∧ PE (cxSup CX P w K mg base N qual (defScope st) f cda cc A outer s H E) e te ∧ PSs (cxSup CX P w K mg base N qual (defScope st) f cda cc A outer s H E) body t ∧
        te (L2.start N vs) H fun x H1 => [x].length ≤ 1000 ∧ H1 a = some (exo a C none) ∧ t { nx := fun _ H' => Q .non H', rt := Q } (L2.start N vs) H1) : FnOk P w K mg base CX (k + 1) f fd ps sp := by
  obtain ⟨oc, od, kV, doc, pm, an, cda, ct, cc, sl, rfl, lk, hcd, lc, lq⟩ := F.ex
  refine ⟨len, fun A outer s H args us vs Q E hr e0 hbi r hsp => ?_⟩
  have hl := len _ _ _ _ hsp
  have KX : K.In s.heap := e0.mod.kin.keeps fun b o e => (e0.bs b o e).1
  have lim : s.heap.NoLimit := e0.mod.nolimit.keeps fun b o e => (e0.bs b o e).1
  obtain ⟨c4, c5, c6, hcell⟩ := lq
  refine ks_codeAny_call_defAt (body := defBody st) hr.depth (KX _ _ lk) rfl lim (PySem.W.codeRec_of KX hcd) rfl hbi S.nocell (fun ⟨n, v⟩ hy => S.par n (List.of_mem_zip hy).1) (fun h1 hns hk => ?_) S.co S.gen S.kind
  obtain ⟨a, te, t, hv, ea, pe, pss, q⟩ := hbody (.ref cda) cc A outer s H vs Q E (hr.deeper _) hsp
  have I : Inv (cxSup CX P w K mg base N qual (defScope st) f (.ref cda) cc A outer s H E) [] (L2.start N vs) H _ := inv_sup (t := s.toks + (ps.zip us).length) S hr.hd e0 hl r hcell hns hk
  have fin : ∀ {σ' : L2.St} {H' : Hp} {v : V} {u : Value} {s' : Shared}, Inv (cxSup CX P w K mg base N qual (defScope st) f (.ref cda) cc A outer s H E) [] σ' H' s' → RelV v u → Q v H' → CE outer P w H s Q u s' :=
    fun {σ' H' v u s'} J rv q => ⟨v, H', J.os, J.bare, J.base, J.hok, rv, q⟩
  have h0 : (L2.start N vs)[0]? = some (some (V.ref a)) := by
    unfold L2.start
    rw [List.getElem?_append_left (by rw [List.length_map]; exact (List.getElem?_eq_some_iff.mp hv).1), List.getElem?_map, hv]
    rfl
  have hloc : (defScope st).names.lookup ar.arg = some .local := S.par _ (by rw [← S.eqN]; exact List.mem_of_getElem? hN)
  show PySem.wpAt _ _ _ (execs (defBody st) _) _ _ _
  rw [hb]
  refine ks_wpAt_execs_cons ?_
  refine sup_run S D lk har lc ⟨c4, c5, c6, hcell⟩ I h0 hN hloc ea (pa_cons pe pa_nil (he _)) q (fun H1 s1 q1 J => ?_) (he _) rfl (hsw _) (hcall _) _
  refine wpAt_of_wpAny (wpAny_mono (pss.run [] s1 (L2.start N vs) H1 _ J q1) (fun fl s' hs => ?_) fun e s' hs => hs)
  cases fl with
  | ret u =>
    obtain ⟨v, σ', H', J, rv, q⟩ := hs
    exact fin J rv q
  | next =>
    obtain ⟨σ', H', J, q⟩ := hs
    exact fin (v := V.non) (u := Value.none) J rfl q
  | brk =>
    obtain ⟨_, _, _, q⟩ := hs
    exact False.elim q
  | cont =>
    obtain ⟨_, _, _, q⟩ := hs
    exact False.elim q
end
end My
set_option maxRecDepth 100000
set_option maxHeartbeats 1000000
namespace My
open PySem PySem.Spec PyProof.Rows L2
/-! ### max(x, default=d) of a list of whole numbers -/
theorem ints_reads {h : Heap} : ∀ {ns : List Int} {us : List Value}, Vals (ns.map V.int) us → ReadsAll h us (ns.map PyData.int) []
  | [], _, .nil => .nil
  | n :: ns, _, .cons r t => by
    obtain ⟨tk, rfl⟩ := r
    exact ReadsAll.cons (as := []) (bs := []) (.int n tk) (ints_reads t)
theorem alike_ints (ns : List Int) : PySem.W.AlikeAll (ns.map PyData.int) := by
  refine ⟨fun x hx y hy => ?_, fun x hx => ?_⟩
  · obtain ⟨i, _, rfl⟩ := List.mem_map.mp hx
    obtain ⟨j, _, rfl⟩ := List.mem_map.mp hy
    rfl
  · obtain ⟨i, _, rfl⟩ := List.mem_map.mp hx
    exact fun z => nomatch z
theorem depth_ints : ∀ ns : List Int, PyData.depthAll (ns.map PyData.int) ≤ 1
  | [] => by simp [PyData.depthAll]
  | n :: ns => by
    have := depth_ints ns
    simp only [List.map_cons, PyData.depthAll, PyData.depth]
    omega
theorem foldl_max (ns : List Int) : ∀ n : Int, (ns.foldl max n ∈ n :: ns) ∧ ∀ y ∈ n :: ns, y ≤ ns.foldl max n := by
  induction ns with
  | nil => intro n; simp
  | cons k r ih =>
    intro n
    obtain ⟨h1, h2⟩ := ih (max n k)
    rw [List.foldl_cons]
    refine ⟨?_, fun y hy => ?_⟩
    · rcases List.mem_cons.mp h1 with e | e
      · rw [e]
        rcases Int.le_total n k with z | z
        · rw [Int.max_eq_right z]; simp
        · rw [Int.max_eq_left z]; simp
      · exact List.mem_cons_of_mem _ (List.mem_cons_of_mem _ e)
    · have hm := h2 (max n k) List.mem_cons_self
      rcases List.mem_cons.mp hy with e | e
      · rw [e]; omega
      · rcases List.mem_cons.mp e with e | e
        · rw [e]; omega
        · exact h2 y (List.mem_cons_of_mem _ e)
section
variable {X : Cx}
def rMaxDf (K : PySem.W.Frag) : List V → List V → Hp → VK → Prop := fun xs zs H Q => ∃ (a : Addr) (ns : List Int) (d : Int), xs = [.ref a] ∧ zs = [.int d] ∧ SqL K H a (ns.map V.int) ∧
  (ns = [] → Q (.int d) H) ∧ ∀ m, m ∈ ns → (∀ y ∈ ns, y ≤ m) → Q (.int m) H
theorem call_maxDf (hc : X.calm = true) (hu : X.A.units + 10 < cLine) : CallRK X (.builtin "max") ["default"] (rMaxDf X.K) := by
  intro pins s σ H xs zs us ws Q I r rz h
  obtain ⟨a, ns, d, rfl, rfl, hq, h0, h1⟩ := h
  obtain rfl := Vals.ref1 r
  obtain ⟨w, rfl, rw'⟩ := rz.one
  obtain ⟨its, rv, pl, hz⟩ := I.list hq
  have hd := depth_ints ns
  refine PySem.W.max_list_default (I.ok.hd hc) pl.isList (xs := ns.map PyData.int) (as := []) (by rw [List.toList_toArray]; exact ints_reads rv) (alike_ints ns) (by show X.A.units + 1 + _ < _; omega) (fun e h' tk k => ?_) fun y ys i v h' tk bs e hv rd k => ?_
  · exact ⟨.int d, H, I.kept (t' := tk) k, rw', h0 (List.map_eq_nil_iff.mp e)⟩
  · cases ns with
    | nil => cases e
    | cons n ns =>
      rw [List.map_cons] at e
      obtain ⟨rfl, rfl⟩ := List.cons.inj e
      rw [PySem.W.maxD_ints] at rd
      obtain ⟨t0, rfl, _⟩ := reads_int_inv rd
      obtain ⟨m1, m2⟩ := foldl_max ns n
      exact ⟨.int (ns.foldl max n), H, I.kept (t' := tk) k, ⟨_, rfl⟩, h1 _ m1 m2⟩
/-! ### isinstance(e, c) of a caught error with fields -/
theorem call_isExD {a : Addr} {oe : Obj} {cls : Value} {d : Option Addr} {pn : List (Addr × Obj)} (hz : Zc cls d oe) (hf : ∃ vs, oe.data = .fields vs) :
    CallR (X.suite a ((a, oe) :: pn)) (.builtin "isinstance") (fun xs H Q => ∃ D dd fs, cls = .ref D ∧ d = some dd ∧ H dd = some (.xd fs) ∧ ExcC X.K D ∧ rIsE X.K D a xs H Q) := by
  intro pins s σ H xs us Q I r h
  obtain ⟨D, dd, fs, rfl, rfl, hd, C, c, cv, b, rfl, hcv, e, q⟩ := h
  cases r with
  | cons rx rr =>
    cases rr with
    | cons rt rr =>
      cases rr
      cases rx
      have ec := hcv _ rt
      subst ec
      obtain ⟨hget, _⟩ := I.pin (a, oe) (List.mem_append.mpr (.inl List.mem_cons_self))
      obtain ⟨vs, hv⟩ := hf
      have hx : ObjOk X.prog X.w H s.heap dd (.xd fs) := I.hok dd _ hd
      obtain ⟨mA, ⟨od, es, ep, ho, _⟩, _⟩ := hx
      have J : PySem.W.InstAt s.heap a oe D (some od) := ⟨hget, hz.1, by unfold PySem.W.notCls; rw [hv] <;> rfl, by rw [hz.2]; exact ho⟩
      obtain ⟨cdD, hcD, _⟩ := PySem.W.any_some C.hd
      refine PySem.W.kia_one (PySem.W.kitx_exc (od := some od) (by rw [hcD]; rfl) C.hg C.hk C.hs C.ha C.hn C.ht C.hm) I.kIn J e (fun z => nomatch z) fun tk => ⟨.bl b, H, I.kept (t' := tk) fun _ _ z => z, rfl, q⟩
end
/-! ### what such a class has, by a check -/
theorem tail_refs : ∀ {l : List Value}, PySem.W.excTail [.type "ValueError", .type "Exception", .type "BaseException", .type "object"] l = true → PySem.HandSPX.refsVE l = true := by
  intro l
  induction l with
  | nil => intro h; revert h; decide
  | cons a t ih =>
    intro h
    cases a <;> first | exact ih h | exact h
theorem oex_of {K : PySem.W.Frag} {C : Addr} (q : PySem.W.excInitIn K C [.type "ValueError", .type "Exception", .type "BaseException", .type "object"] "ValueError.__new__" = true) (hd : PySem.W.hasDictIn K C = true)
    (sa : PySem.W.findIn K (.ref C) "__setattr__" = some (some (.builtin "object.__setattr__"))) (bp : PySem.W.subIn K (.ref C) (.type "BaseException") = some true) (tp : PySem.W.typeIn K (.ref C) = some (.type "type")) (kp : PySem.W.keepIn K (.ref C) = true) : OexC K C := by
  refine ⟨?_, sa, bp, tp, kp⟩
  unfold PySem.W.excInitIn at q
  split at q
  · rename_i dd cd sl ho
    split at q
    · rename_i C' bm k0 k1 k2 k3 n k5 hm hs
      simp only [Bool.and_eq_true, beq_iff_eq, Bool.not_eq_true'] at q
      obtain ⟨⟨⟨e1, e2⟩, hdel⟩, ht⟩ := q
      subst e1
      subst e2
      obtain ⟨cd1, hc1, hd1⟩ := PySem.W.any_some hd
      have ec : PySem.W.clsIn K C' = some cd := by unfold PySem.W.clsIn; rw [ho]
      rw [ec] at hc1
      cases hc1
      obtain ⟨nm, bs, mro, ns, qn, hdc, sn, sub, ab, col, del⟩ := cd
      dsimp only at hm hdel hd1
      subst hm
      subst hdel
      subst hd1
      have hsl : sl = #[k0, k1, k2, k3, some (.builtin "ValueError.__new__"), k5] := by
        obtain ⟨l⟩ := sl
        simp only at hs
        rw [hs]
      subst hsl
      exact ⟨nm, qn, ns, bs, bm, sn, sub, ab, col, dd, k0, k1, k2, k3, k5, ho, tail_refs ht⟩
    · cases q
  · cases q
/-! ### the promises of such an __init__ -/
/-- one field -/
def spX1 (C : Addr) (f : Str) (P : V → Prop) : Sp := fun vs H Q _ => ∃ (a : Addr) (y : V), vs = [.ref a, y] ∧ P y ∧ H a = some (exo a C none) ∧ ∀ d, H d = none → d ≠ a → Q .non (upd (upd H d (exd d [(f, y)])) a (exo a C (some d)))
def smallI (y : V) : Prop := ∃ i : Int, y = .int i ∧ i.natAbs < 1000000
theorem small_log {i : Int} (h : i.natAbs < 1000000) : i.natAbs.log2 < 1920 := by
  rcases Nat.eq_zero_or_pos i.natAbs with e | e
  · rw [e]; decide
  · exact Nat.lt_of_lt_of_le ((Nat.log2_lt (by omega)).mpr (Nat.lt_of_lt_of_le h (by decide : 1000000 ≤ 2 ^ 20))) (by decide)
end My
set_option maxRecDepth 100000
set_option maxHeartbeats 1000000
namespace My
open PySem PySem.Spec PyProof.Rows L2
/-! ### iter(t) of a tuple; list(o), o's class with its own __iter__ (a tuple's iterator) and its own __len__ -/
/-- a tuple's iterator at it, over the tuple at l, the next place i -/
def TitO (l it : Addr) (i : Nat) : HO := .ext fun h => h.IsTupleIter it l i
/-- at it stands something -/
def AnyO (it : Addr) : HO := .ext fun h => ∃ o, h.get? it = some o
theorem titO_ok {P : Program} {w : World} {H : Hp} {h : Heap} {l it : Addr} {i : Nat} (e : h.IsTupleIter it l i) : ObjOk P w H h it (TitO l it i) :=
  ⟨e, ⟨_, e.choose_spec.1⟩, fun h1 h2 q k => let ⟨o, ho, r⟩ := q; ⟨o, k _ ho, r⟩⟩
theorem anyO_ok {P : Program} {w : World} {H : Hp} {h : Heap} {it : Addr} (e : ∃ o, h.get? it = some o) : ObjOk P w H h it (AnyO it) := ⟨e, e, fun h1 h2 q k => let ⟨o, ho⟩ := q; ⟨o, k _ ho⟩⟩
section
variable {X : Cx} {pins : List (Addr × Obj)} {σ : L2.St} {H : Hp} {s : Shared} {l it S : Addr} {i : Nat}
theorem titO_get (I : Inv X pins σ H s) (e : H it = some (TitO l it i)) : s.heap.IsTupleIter it l i := (I.hok it _ e).1
theorem call_iterT : CallR X (.builtin "iter") (fun xs H Q => ∃ (l : Addr) (zs : List V), xs = [.ref l] ∧ SqT X.K H l zs ∧ ∀ it, H it = none → Q (.ref it) (upd H it (TitO l it 0))) := by
  intro pins s σ H xs us Q I r h
  obtain ⟨l, zs, rfl, hq, q⟩ := h
  obtain rfl := Vals.ref1 r
  obtain ⟨its, rv, pl, hz⟩ := I.tuple hq
  refine Calls.call_function_entry (by decide +kernel) (by decide +kernel) PySem.W.kdk_entry_iter (PySem.W.kdk_args_iter _) ?_
  unfold Builtin.«iter»
  refine wpAny_bind (m := someArgs "iter" 1 2 _) (wpAny_of_eq (a := [Value.ref l]) (by first | rfl | kernel_rfl!) ?_)
  show wpAny _ _ (pyIter (.ref l) >>= _) _ _ _
  refine wpAny_bind (wpAny_pyIter_tuple (show s.heap.IsTuple l its.toArray from pl) (wpAny_pure ⟨_, rfl, ?_⟩))
  exact ⟨.ref s.heap.objs.size, _, I.laid (t' := s.toks) (fun b u e => Heap.get?_push_of_some _ e) (Nat.le_refl _) (titO_ok ⟨_, Heap.get?_push_size _ rfl, rfl, rfl⟩), rfl, q _ (I.hok.fresh (Nat.le_refl _))⟩
/-- the end of a tuple's iterator; its record stays -/
theorem tup_end {prog : Program} {w : World} {A : Around} {E : Value → Shared → Prop} {items : Array Value} {Q : Option Value → Shared → Prop} (hh : A.handled = none) (hit : s.heap.IsTupleIter it l i) (ht : s.heap.IsTuple l items) (hx : items[i]? = none)
    (hQ : ∀ h', (∀ b o, b ≠ it → s.heap.get? b = some o → h'.get? b = some o) → (∃ o, h'.get? it = some o) → Q none { s with heap := h' }) : wpAny (model prog w) A (pyNext (.ref it)) Q E s := by
  obtain ⟨o, ho, hc, hd⟩ := id hit
  obtain ⟨ol, hol, _, nl, hdl⟩ := ht
  have hup := Heap.get?_update_self (Obj.mapFields (·.setIfInBounds 0 Value.none)) ho (Obj.isFreed_of_fields (Obj.data_mapFields hd _))
  unfold pyNext
  refine wpAny_bind (wpAny_attempt (wpAny_callSpecial?_slot (name := Str.ofString "__next__") hit.typeIs PySem.F.slot_tuple_iterator_next (wpAny_call_entry PySem.F.slot_tuple_iterator_next hit.typeIs PySem.F.entry_tuple_iterator_next ?_ (PySem.F.args_tuple_iterator_next_1 _))))
  show wpAny _ _ (field (.ref it) 0 >>= _) _ _ s; refine wpAny_bind (wpAny_field ho hd (x := .ref l) rfl ?_); show wpAny _ _ (if (Value.ref l == Value.none) = true then _ else _) _ _ s
  rw [if_neg (fun z => by revert z; exact Bool.false_ne_true : ¬ ((Value.ref l == Value.none) = true))]; show wpAny _ _ (field (.ref it) 1 >>= _) _ _ s
  refine wpAny_bind (wpAny_field ho hd (x := .int i 0) rfl ?_); show wpAny _ _ (seqItems? (.ref l) >>= _) _ _ s
  refine wpAny_bind (wpAny_seqItems hol hdl ?_)
  simp only [Int.toNat_natCast, hx]
  refine wpAny_bind (wpAny_rule (wpAny_bind (wpAny_setField ho hd (by simp) ?_))); show wpAny _ _ (newExc (.type "StopIteration") [] >>= _) _ _ _
  refine wpAny_bind ?_
  simp only [newExc, newTuple]
  refine wpAny_bind (wpAny_newObj_type ?_ (by size_fits)); refine wpAny_bind (m := firstArgMember _ _) (wpAny_of_eq (a := Value.none) (by first | rfl | (simp only [firstArgMember]; rfl)) ?_)
  refine wpAny_newObj_type ?_ (by size_fits)
  simp only [raiseNew]
  refine wpAny_bind (wpAny_handled ?_)
  first | rw [show A.in1.handled = none from hh] | rw [hh]
  refine wpAny_bind (wpAny_pure (wpAny_throw ?_))
  refine wpAny_bind (wpAny_isInstance (T := "StopIteration") (b := true) ⟨_, Heap.get?_push_size _ rfl, rfl⟩ isSubtype_stop (wpAny_pure (hQ _ (fun b ob hb e => ?_) ⟨_, Heap.get?_push_of_some _ (Heap.get?_push_of_some _ hup)⟩)))
  exact Heap.get?_push_of_some _ (Heap.get?_push_of_some _ ((Heap.get?_update_other _ _ (Ne.symm hb)).trans e))
/-- list.extend over it -/
theorem tit_loop {A1 : Around} {ys : List V} {Rs : Result → Shared → Prop} (hh : A1.handled = none) :
    ∀ (k i : Nat) (H : Hp) (s : Shared), ys.length - i = k → i ≤ ys.length → Inv X pins σ H s → H it = some (TitO l it i) → H l = some (.tup ys) → H S = some (.lst (ys.take i)) → ys.length < sizeLine →
      (∀ H2 s2, Inv X pins σ H2 s2 → (∀ b, b ≠ it → b ≠ S → H2 b = H b) → H2 S = some (.lst ys) → Rs (.ok (.ret .none)) s2) → codeAny (model X.prog X.w) A1 (.builtin "list.extend.loop" ⟨[.ref S, .ref it, .none], []⟩) Rs s := by
  intro k
  induction k with
  | zero =>
    intro i H s hk hi I h1 h2 h3 hz hR
    have hne : S ≠ it := ne_of h3 h1 (fun z => nomatch z)
    obtain ⟨its, rv, pl, _⟩ := I.tuple (SqT.of h2)
    refine codeAny_builtin PySem.F.entry_extend_loop ?_
    rw [Around.under_plainId PySem.F.plain_extend_loop _]
    show wpAny _ A1.in1 (pyNext (.ref it) >>= _) _ _ s
    have hno : (its.toArray)[i]? = none := by
      have := rv.length
      rw [List.getElem?_toArray, List.getElem?_eq_none_iff]
      omega
    refine wpAny_bind (tup_end hh (titO_get I h1) (show s.heap.IsTuple l its.toArray from pl) hno fun h' k' e' => wpAny_pure ?_)
    have J := I.write (t' := s.toks) (x := it) (e := it) (o := AnyO it) (by rw [h1]; exact True.intro) (.inl rfl) k' e' (anyO_ok e')
    refine hR _ _ J (fun b hb _ => upd_ne hb) ?_
    rw [upd_ne hne, h3, List.take_of_length_le (by omega)]
  | succ k ih =>
    intro i H s hk hi I h1 h2 h3 hz hR
    have hne : S ≠ it := ne_of h3 h1 (fun z => nomatch z)
    have hln : l ≠ it := ne_of h2 h1 (fun z => nomatch z)
    have hlS : l ≠ S := ne_of h2 h3 (fun z => nomatch z)
    obtain ⟨its, rv, pl, _⟩ := I.tuple (SqT.of h2)
    have hlen := rv.length
    have hlt : i < ys.length := by omega
    obtain ⟨u, hu, ru⟩ := rv.get (i := i) (x := ys[i]) (by simp [hlt])
    refine codeAny_builtin PySem.F.entry_extend_loop ?_
    rw [Around.under_plainId PySem.F.plain_extend_loop _]
    show wpAny _ A1.in1 (pyNext (.ref it) >>= _) _ _ s
    refine wpAny_bind (wpAny_pyNext_tuple_item (titO_get I h1) (show s.heap.IsTuple l its.toArray from pl) (x := u) (by rw [List.getElem?_toArray]; exact hu) fun h' hit hs => ?_)
    have J := I.write (t' := s.toks) (x := it) (e := it) (o := TitO l it (i + 1)) (by rw [h1]; exact True.intro) (.inl rfl) (fun b o hb e => hs.extBut b o hb e) ⟨_, hit.choose_spec.1⟩ (titO_ok hit)
    have h3' : upd H it (TitO l it (i + 1)) S = some (.lst (ys.take i)) := by rw [upd_ne hne]; exact h3
    show wpAny _ A1.in1 (updateSeq S (·.push u) >>= _) _ _ _
    obtain ⟨z, its3, n3, r3, hl3, e3⟩ := J.lstM h3'
    have hl4 : its3.length = i := by rw [← hl3, List.length_take]; omega
    refine wpAny_bind (wpAny_updateSeq e3 rfl (wpAny_pure ⟨plainId_quiet PySem.F.plain_extend_loop _, ?_⟩) (by rw [List.size_toArray]; omega) (by show (its3.toArray.push u).size ≤ sizeLine + 1; rw [Array.size_push, List.size_toArray]; omega))
    have et : ys.take (i + 1) = ys.take i ++ [ys[i]] := by rw [List.take_succ]; simp [hlt]
    have J2 := J.lset (f := (·.push u)) (its' := its3 ++ [u]) (t' := s.toks) (ys := ys.take (i + 1)) h3' e3 (by simp) (by rw [et]; exact r3.append (.cons ru .nil)) (by rw [List.length_take]; omega)
    refine ih (i + 1) _ _ (by omega) hlt J2 ?_ ?_ upd_same hz fun H2 s2 I2 k2 e2 => hR H2 s2 I2 (fun b hb hc => ?_) e2
    · rw [upd_ne (Ne.symm hne), upd_same]
    · rw [upd_ne hlS, upd_ne hln]; exact h2
    · rw [k2 b hb hc, upd_ne hc, upd_ne hb]
/-- what such a class must have -/
structure ItL (K : PySem.W.Frag) (C fi fl : Addr) : Prop where
  it : PySem.W.findIn K (.ref C) "__iter__" = some (some (.ref fi))
  itF : PySem.W.isFn K (.ref fi) = true
  ln : PySem.W.findIn K (.ref C) "__len__" = some (some (.ref fl))
  lnF : PySem.W.isFn K (.ref fl) = true

/-- list(o): its __iter__ gives a tuple's iterator, its __len__ a number -/
def rLstIt (C : Addr) (spI spL : Sp) (EI EL : XK) : List V → Hp → VK → Prop := fun xs H Q => ∃ a dx fs, xs = [.ref a] ∧ H a = some (.ins C dx fs) ∧ ∀ q, H q = none → q ≠ a →
  spI [.ref a] (upd H q (.lst [])) (fun v H1 => ∃ it l ys, v = .ref it ∧ H1 it = some (TitO l it 0) ∧ H1 l = some (.tup ys) ∧ H1 q = some (.lst []) ∧ H1 a = some (.ins C dx fs) ∧ ys.length < sizeLine ∧
    spL [.ref a] H1 (fun n H2 => H2 = H1 ∧ ∃ k : Int, n = .int k ∧ 0 ≤ k ∧ k < 1000) EL ∧ ∀ H2, (∀ b, b ≠ it → b ≠ q → H2 b = H1 b) → H2 q = some (.lst ys) → Q (.ref q) H2) EI
section
variable {X : Cx} {CI : CXT} {n : Nat} {C fi fl : Addr} {fdI fdL : FuncData} {psI psL : List Str} {spI spL : Sp} {EI EL : XK}
theorem call_at0 {f : Addr} {fd : FuncData} {ps : List Str} {sp : Sp} {E : XK} (G0 : FnOk X.prog X.w X.K X.mg X.base CX0 n f fd ps sp) (hb : Binds X.K fd ps []) {A : Around} (hr : Room n A) (hA : A.frames = X.A.frames)
    {pins : List (Addr × Obj)} {s : Shared} {σ : L2.St} {H : Hp} (I : Inv X pins σ H s) {vs : List V} {us : List Value} (r : Vals vs us) {Q : VK} {EE : Value → Shared → Prop} (h : sp vs H Q E) :
    wpAny (model X.prog X.w) A (call (.ref f) us) (EP X pins σ Q) EE s := by
  have e0 : Env0 X.prog X.w X.K X.mg X.base A X.stack s H := by
    have e := I.env0
    exact ⟨by rw [hA]; exact e.frames, e.mod, e.bs, e.bsz, e.funs, e.frf, e.hok, e.bare⟩
  have hl := G0.len _ _ _ _ h
  refine wpAny_call (codeAny_mono (G0.run A X.stack s H ⟨us, []⟩ us vs Q E hr e0 (by
    have := hb s us I.kIn (by rw [List.append_nil, ← r.length]; exact hl)
    simpa using this) r h) fun r s' hq => ?_)
  cases r with
  | error e => exact False.elim hq
  | ok fl =>
    cases fl with
    | ret w => exact I.after hq
    | next => exact False.elim hq
    | brk => exact False.elim hq
    | cont => exact False.elim hq
theorem call_listIt (hc : ItL X.K C fi fl) (FI : FnOk X.prog X.w X.K X.mg X.base CI n fi fdI psI spI) (bI : Binds X.K fdI psI []) (xI : Passes CI X EI)
    (FL : FnOk X.prog X.w X.K X.mg X.base CX0 n fl fdL psL spL) (bL : Binds X.K fdL psL []) (hr : Room (n + 4) X.A) : CallR X (.type "list") (rLstIt C spI spL EI EL) := by
  intro pins s σ H xs us Q I rv h
  obtain ⟨a, dx, fs, rfl, ha, hq⟩ := h
  obtain ⟨u, rfl, ru⟩ := rv.one
  cases ru
  have sb : Sub X (n + 2) X.A.in1.in1 := (Sub.in1 (Sub.in1 (⟨hr, rfl⟩ : Sub X (n + 4) X.A)))
  refine callType_codes (Q₁ := fun obj s₁ => obj = .ref s.heap.objs.size ∧ s₁ = { s with heap := s.heap.push { cls := .type "list", data := .seq #[] } }) PySem.F.called_list (PySem.F.typeCall_list_1 _) PySem.F.entry_list_init (code_list_new _ ⟨rfl, rfl⟩) fun obj s₁ h₁ => ?_
  obtain ⟨rfl, rfl⟩ := h₁
  have hS : (s.heap.push { cls := .type "list", data := .seq #[] }).get? s.heap.objs.size = some { cls := .type "list", data := .seq #[] } := Heap.get?_push_size _ rfl
  refine ⟨⟨_, hS, rfl⟩, PySem.F.args_list_init_2 _ _, ?_⟩
  have fr : H s.heap.objs.size = none := I.hok.fresh (Nat.le_refl _)
  have sp0 := hq _ fr (fun z => by rw [z, ha] at fr; cases fr)
  have I1 : Inv X pins σ (upd H s.heap.objs.size (.lst [])) { s with heap := s.heap.push { cls := .type "list", data := .seq #[] } } := I.lnew (its := []) (t' := s.toks) .nil (Nat.zero_le _)
  show wpAny _ _ (do let old ← Builtin.List.listItems (.ref s.heap.objs.size); Builtin.List.listUpdate (.ref s.heap.objs.size) (fun _ => #[]); letGo old.toList.reverse; Builtin.List.listExtendWith (.ref s.heap.objs.size) (.ref a) .none) _ _ _
  refine wpAny_bind ?_
  unfold Builtin.List.listItems
  refine wpAny_bind (wpAny_seqItems hS rfl (wpAny_pure ?_))
  show wpAny _ _ (updateSeq s.heap.objs.size (fun _ => #[]) >>= fun _ => letGo (#[] : Array Value).toList.reverse >>= fun _ => Builtin.List.listExtendWith (.ref s.heap.objs.size) (.ref a) .none) _ _ _
  refine wpAny_bind (wpAny_updateSeq hS rfl ?_)
  have I2 := I1.lset (f := fun _ => #[]) (its := []) (its' := []) (ys := []) (t' := s.toks) upd_same hS rfl .nil (Nat.zero_le _)
  rw [upd_upd] at I2
  refine wpAny_bind (wpAny_letGo ?_)
  have ha2 : upd H s.heap.objs.size (.lst []) a = some (.ins C dx fs) := by rw [upd_ne (ne_of_none ha fr)]; exact ha
  have hne : s.heap.objs.size ≠ a := fun z => by rw [z, ha] at fr; cases fr
  generalize hq0 : s.heap.objs.size = q at *
  generalize hH0 : upd H q (.lst []) = H0 at *
  obtain ⟨mA, J, _⟩ := ins_get I2.hok ha2
  obtain ⟨od, J, _⟩ := J.look
  obtain ⟨m0, hF⟩ := I2.fr
  unfold Builtin.List.listExtendWith
  refine wpAny_bind (J.type.here ?_)
  have h1 : Builtin.List.listSameRef (.ref q) (.ref a) = false := by simp [Builtin.List.listSameRef, hne]
  simp only [h1, (rfl : (Value.ref C == Value.type "list") = false), (rfl : (Value.ref C == Value.type "tuple") = false), Bool.or_false, Bool.false_eq_true, if_false]
  refine wpAny_bind (PySem.W.owit_iter hF I2.ok.mod.kin J hc.it hc.itF ?_)
  refine wpAny_mono (call_at FI bI xI (A := X.A.in1.in1) (sb.mono (by omega)).room sb.fr I2 (vs := [.ref a]) (.cons rfl .nil) sp0) (fun v s3 z => ?_) fun _ _ z => z
  obtain ⟨x, H1, I3, r3, it, l, ys, ex, e1, e2, e3, e4, hz, q1, q2⟩ := z
  subst ex
  obtain rfl : v = Value.ref it := r3
  have hit := titO_get I3 e1
  unfold PySem.W.OwitIt
  refine wpAny_specialOf (show s3.TypeIs (.ref it) "tuple_iterator" from hit.typeIs) PySem.F.slot_tuple_iterator_next.lookup ?_
  show wpAny _ _ _ _ _ s3
  refine wpAny_bind (wpAny_holding ?_)
  obtain ⟨mB, J3, _⟩ := ins_get I3.hok e4
  obtain ⟨od3, J3, _⟩ := J3.look
  obtain ⟨m3, hF3⟩ := I3.fr
  unfold Builtin.List.listLengthHint
  refine wpAny_bind (wpAny_bind (J3.type.here ((PySem.W.looks_findIn I3.kIn hc.ln).here ?_)))
  refine PySem.W.KFB.if_not rfl ?_
  refine PySem.W.KFB.if_so rfl ?_
  refine wpAny_bind (wpAny_rule (wpAny_bind (wpAny_attempt ?_)))
  refine PySem.W.len_K hF3 I3.ok.mod.kin J3 hc.ln hc.lnF (wpAny_mono (call_at0 FL bL (A := X.A.in1.in1.in1) (Sub.in1 (sb.mono (show n + 1 ≤ n + 2 by omega))).room sb.fr I3 (vs := [.ref a]) (.cons rfl .nil) q1) (fun v s4 z => ?_) fun _ _ z => z)
  obtain ⟨x, H2, I4, r4, eH, k0, ek, hk0, hk1⟩ := z
  subst ek
  subst eH
  obtain ⟨tk4, rfl⟩ := r4
  refine ⟨⟨hk0, by omega⟩, ?_⟩
  refine wpAny_bind (wpAny_of_eq (a := some k0) rfl ?_)
  show wpAny _ _ (if Builtin.List.listTooLong k0.toNat = true then _ else _) _ _ _
  refine PySem.W.KFB.if_not (notLongL (by rw [sizeLine_eq]; omega)) (wpAny_pure ?_)
  have I5 := I4.tok (s4.toks + 1)
  have hne1 : q ≠ it := ne_of e3 e1 (fun z => nomatch z)
  have go : ∀ s5, Inv X pins σ H2 s5 → codeAny (model X.prog X.w) X.A.in1 (.builtin "list.extend.loop" ⟨[.ref q, .ref it, .none], []⟩) (wants (fun r s₂ => r = .none ∧ EP X pins σ Q (.ref q) s₂) X.xe) s5 := fun s5 I6 =>
    tit_loop (A1 := X.A.in1) (Rs := wants (fun r s₂ => r = .none ∧ EP X pins σ Q (.ref q) s₂) X.xe) (show X.A.in1.handled = none from hr.hd) ys.length 0 H2 s5 (by omega) (Nat.zero_le _) I6 e1 e2 (by rw [List.take_zero]; exact e3) hz fun H7 s7 I7 k7 e7 => ⟨rfl, .ref q, H7, I7, rfl, q2 H7 k7 e7⟩
  refine wpAny_ite_split (fun _ => ?_) (fun _ => wpAny_pure ⟨plainId_quiet PySem.F.plain_extend_loop _, go _ I5⟩)
  refine wpAny_bind (wpAny_rule (wpAny_bind ?_))
  show wpAny _ _ (updateSeq q (·.push .none) >>= fun _ => updateSeq q (·.pop)) _ _ _
  obtain ⟨z, its, n5, r5, hl5, e5⟩ := I5.lstM e3
  cases r5
  refine wpAny_bind (wpAny_updateSeq e5 rfl ?_)
  have I6 := I5.lset (f := (·.push Value.none)) (its' := [Value.none]) (ys := [.non]) (t' := s4.toks + 1) e3 e5 (by simp) (.cons rfl .nil) (by rw [List.length_singleton, sizeLine_eq]; decide)
  obtain ⟨z6, its6, n6, r6, hl6, e6⟩ := I6.lstM upd_same
  obtain ⟨u6, rfl, ru6⟩ := r6.one
  refine wpAny_updateSeq e6 rfl (wpAny_pure ⟨plainId_quiet PySem.F.plain_extend_loop _, go _ ?_⟩) (by show 1 ≤ sizeLine; rw [sizeLine_eq]; decide) (by show 0 ≤ sizeLine + 1; exact Nat.zero_le _)
  have I7 := I6.lset (f := (·.pop)) (its := [u6]) (its' := []) (ys := []) (t' := s4.toks + 1) upd_same e6 (by rfl) .nil (Nat.zero_le _)
  rw [upd_upd] at I7
  have hH : upd H2 q (.lst []) = H2 := by
    funext b
    by_cases hb : b = q
    · rw [hb, upd_same, e3]
    · rw [upd_ne hb]
  rw [hH] at I7
  exact I7
end
end
end My
set_option maxRecDepth 100000
set_option maxHeartbeats 2000000
namespace My
open PySem PySem.Spec PyProof.Rows L2
/-! ### enumerate(t), t a tuple -/
theorem enum_new1 {v : Value} {o : Obj} {G : Heap → Prop} (B : Begins v o G) :
    Meets (Builtin.«enumerate.__new__» ⟨[.type "enumerate", v], []⟩) (fun _ R s => G s.heap ∧
      R (.ok (.ret (.ref (s.heap.push o).objs.size))) { s with heap := (s.heap.push o).push { cls := .type "enumerate", data := .fields #[.none, .bool false, .ref s.heap.objs.size, rawInt 0, .none, .none] } }) := by
  refine .of_wp fun prog w A R s h => ?_
  obtain ⟨hp, g, d, tk, os⟩ := s
  obtain ⟨h1, h⟩ := h
  have hsub := sub_enumerate
  have goB : ∀ {A' : Around} {E Q : Value → Shared → Prop}, Q (.ref hp.objs.size) ⟨hp.push o, g, d, tk, os⟩ → wpAny (model prog w) A' (pyIter v) Q E ⟨hp, g, d, tk, os⟩ := fun q => B.iter prog w _ _ ⟨hp, g, d, tk, os⟩ _ h1 q
  wp_walk using goB
  refine wpAny_stack_any fun st => wpAny_pure ?_
  split
  · rename_i c _ _ _ _ _
    cases (c == Value.type "enumerate") <;> (wp_walk using goB; exact ⟨_, rfl, h⟩)
  · wp_walk using goB
    exact ⟨_, rfl, h⟩
theorem call_enum1 {prog : Program} {w : World} {A : Around} {E : Value → Shared → Prop} {s : Shared} {v : Value} {o : Obj} {G : Heap → Prop} {Q : Value → Shared → Prop} (B : Begins v o G) (h1 : G s.heap)
    (h : ∀ h', IsEnum h' (s.heap.objs.size + 1) s.heap.objs.size 0 .none → h'.get? s.heap.objs.size = some o → (∀ b o, s.heap.get? b = some o → h'.get? b = some o) → Q (.ref (s.heap.objs.size + 1)) { s with heap := h' }) :
    wpAny (model prog w) A (call (.type "enumerate") [v]) Q E s := by
  refine callType_new PySem.F.called_enumerate (by decide) (PySem.F.typeCall_enumerate_1 _) (PySem.F.newCall_enumerate_1 _) (fun obj => PySem.F.args_object_init_2 obj _) PySem.F.entry_enumerate_new (enum_new1 B) ⟨h1, ?_⟩
  have hz : (s.heap.push o).objs.size = s.heap.objs.size + 1 := Heap.size_push ..
  show _ ∧ _
  rw [hz]
  have he : IsEnum ((s.heap.push o).push { cls := .type "enumerate", data := .fields #[.none, .bool false, .ref s.heap.objs.size, rawInt 0, .none, .none] }) (s.heap.objs.size + 1) s.heap.objs.size 0 .none := by
    have q := Heap.get?_push_size (s.heap.push o) (o := { cls := .type "enumerate", data := .fields #[.none, .bool false, .ref s.heap.objs.size, rawInt 0, .none, .none] }) rfl
    rwa [hz] at q
  exact ⟨⟨_, he, rfl⟩, h _ he (Heap.get?_push_of_some _ (Heap.get?_push_size _ B.free)) fun b o x => Heap.get?_push_of_some _ (Heap.get?_push_of_some _ x)⟩
def IteT (K : PySem.W.Frag) (a : Addr) : It :=
  ⟨fun i H => ∃ (xs : List V) (x : V), SqT K H a xs ∧ xs[i]? = some x, fun i H v H' => ∃ T x, v = .ref T ∧ H T = none ∧ H' = upd H T (.tup [.int (i : Nat), x]) ∧ ∀ xs, SqT K H a xs → xs[i]? = some x, fun i H => ∃ xs : List V, SqT K H a xs ∧ xs.length ≤ i⟩
theorem turn_enumT {P : Program} {w : World} {K : PySem.W.Frag} {elts : List Expr} {kk : Nat} {tpos : Pos} (a e it : Addr) (hae : a ≠ e) (hai : a ≠ it) :
    Turn P w K (.Tuple elts kk tpos) (IteT K a) [e, it] e (fun i h => (∃ old, IsEnum h e it ((i : Nat) : Int) old) ∧ h.IsTupleIter it a i ∧ e ≠ it) where
  mem := by simp
  obj := fun i h st b hb => by
    obtain ⟨⟨old, he⟩, ⟨o, ho, hc, hd⟩, _⟩ := st
    have e' : b = e ∨ b = it := by simpa using hb
    rcases e' with z | z
    · rw [z]; exact ⟨_, he, fun v q => nomatch q⟩
    · rw [z]; exact ⟨o, ho, fun v q => by rw [hd] at q; cases q⟩
  keep := fun i h h' st k => let ⟨⟨old, he⟩, hi, hne⟩ := st; ⟨⟨old, k e (by simp) _ he⟩, hi.at fun o q => k it (by simp) o q, hne⟩
  item := by
    intro X hP hw hK hc i pins s σ H E I hf st hg
    subst hP hw hK
    obtain ⟨⟨old, he⟩, hit, hne⟩ := st
    obtain ⟨xs, x, hq, hx⟩ := hg
    obtain ⟨its, rv, p, hz⟩ := I.tuple hq
    obtain ⟨u, hu, ru⟩ := rv.get hx
    have hel : e < s.heap.objs.size := Heap.lt_size he
    have hil : it < s.heap.objs.size := by obtain ⟨_, q, _⟩ := hit; exact Heap.lt_size q
    have hlt : i < its.toArray.size := by rw [List.size_toArray]; exact (List.getElem?_eq_some_iff.mp hu).1
    refine wpAny_pyNext_enum_itemD (Draws.tuple (A := X.A.in1) (show X.A.in1.handled = none from I.ok.hd hc) it a hai its.toArray) he ⟨hit, p⟩ hlt hne (by simp [hne, Ne.symm hae]) fun x1 h' tk px ho st' hT hsz hk => ?_
    obtain ⟨hit', _⟩ := st'
    have ex1 : x1 = u := by
      rw [List.getElem?_toArray, hu] at px
      exact (Option.some.inj px).symm
    subst ex1
    refine ⟨_, rfl, wpAny_letOwnedTupleGo_enum (s := { s with heap := h', toks := tk + 1 }) ho fun h'' he' sb => ?_⟩
    have hT2 : h''.get? s.heap.objs.size = some { cls := .type "tuple", data := .seq #[.int i tk, x1] } := (sb.2 _ (Nat.ne_of_gt hel)).trans hT
    have new : ObjOk X.prog X.w (upd H s.heap.objs.size (.tup [.int (i : Nat), x])) h'' s.heap.objs.size (.tup [.int (i : Nat), x]) :=
      ⟨by show 2 ≤ sizeLine; decide, [.int i tk, x1], .cons ⟨_, rfl⟩ (.cons ru .nil), ⟨_, hT2, rfl, _, rfl⟩⟩
    have I1 : Inv X pins σ (upd H s.heap.objs.size (.tup [.int (i : Nat), x])) { s with heap := h'', toks := tk + 1 } :=
      I.turnedNew (ch := [e, it]) (fun b ob hb q => (sb.2 b (fun z => hb (by simp [z]))).trans (hk b ob (fun z => hb (by simp [z])) (fun z => hb (by simp [z])) q)) hf (Nat.le_refl _) new
    refine ⟨.ref s.heap.objs.size, _, I1, rfl, ⟨_, x, rfl, I.hok.fresh (Nat.le_refl _), rfl, fun ys hy => by rw [I.tuple_inj hy hq]; exact hx⟩, ⟨⟨x1, ?_⟩, hit'.at fun o q => (sb.2 it (Ne.symm hne)).trans q, hne⟩, fun b hb => ?_⟩
    · rw [show ((i + 1 : Nat) : Int) = (i : Int) + 1 by omega]; exact he'
    · have hb' : b < s.heap.objs.size := by
        rcases (by simpa using hb : b = e ∨ b = it) with z | z
        · rw [z]; exact hel
        · rw [z]; exact hil
      rw [upd_ne (Nat.ne_of_lt hb')]; exact (hf b hb).1
  done := by
    intro X hP hw hK hc i pins s σ H E I hf st hg
    subst hP hw hK
    obtain ⟨⟨old, he⟩, hit, hne⟩ := st
    obtain ⟨xs, hq, hx⟩ := hg
    obtain ⟨its, rv, p, hz⟩ := I.tuple hq
    obtain ⟨f0, f1, f2, f3, f4, f5⟩ := hf it (by simp)
    have hl := rv.length
    have hno : (its.toArray)[i]? = none := by rw [List.getElem?_toArray, List.getElem?_eq_none_iff]; omega
    have D : Draws X.prog X.w X.A.in1 it [it, a] i (fun _ _ => True) (fun j h => j = i ∧ h.IsTupleIter it a i ∧ h.IsTuple a its.toArray) :=
      ⟨fun _ _ st => ⟨_, st.2.1.choose_spec.1⟩, fun _ _ _ st hk => ⟨st.1, st.2.1.at fun o q => hk it (by simp) o q, st.2.2.at fun o q => hk a (by simp) o q⟩,
        fun j s Q E hj st _ => absurd st.1 (Nat.ne_of_lt hj), fun s Q E st hE => wpAny_nextOf_tuple_end (show X.A.in1.handled = none from I.ok.hd hc) st.2.1 st.2.2 hno hE⟩
    exact wpAny_pyNext_enum_endD D he ⟨rfl, hit, p⟩ fun h' eb => ⟨rfl, I.turned (t' := s.toks) (fun b o hb q => eb b o hb q) f0 f1 f3 f4 f5⟩
  self := fun A i s Q E st h => let ⟨⟨_, he⟩, _⟩ := st; wpAny_pyIter_enum he h
def iEnumT (K : PySem.W.Frag) (ta : TA) : TI := fun σ H R => ta σ H fun vs H1 => ∃ a xs, vs = [.ref a] ∧ SqT K H1 a xs ∧ R (IteT K a) H1
theorem pi_enumT {X : Cx} {e : Expr} {ta : TA} {p pos tpos : Pos} {elts : List Expr} {kk : Nat} (hg : Gl X "enumerate") (hm : X.mg "enumerate" = none) (ha : PA X [e] ta) (hs : starEach [e] X.env = [(false, eval e X.env)] := by rfl) :
    PI X (.Tuple elts kk tpos) (.Call (.Name "enumerate" p) [e] [] pos) (iEnumT X.K ta) := by
  refine ⟨fun pins s σ H R I h => ?_⟩
  refine Call_ (ld_blt I hg hm boot_enumerate (PyProof.Rows.callWith_type1 (thn (ha.run pos pins s σ H _ I h) fun us s1 ⟨vs, H1, I1, r1, a, xs, ex, hq, q⟩ => ?_) hs rfl))
  subst ex
  obtain rfl := Vals.ref1 r1
  obtain ⟨its, rv, p', hz⟩ := I1.tuple hq
  have hal : a < s1.heap.objs.size := by obtain ⟨_, z, _⟩ := p'; exact Heap.lt_size z
  refine call_enum1 (begins_tuple a its.toArray) (show s1.heap.IsTuple a its.toArray from p') fun h' he hit hk => wpAny_pyIter_enum he ?_
  have I2 : Inv X pins σ H1 { s1 with heap := h' } := I1.kept (t' := s1.toks) hk
  refine ⟨s1.heap.objs.size + 1, [s1.heap.objs.size + 1, s1.heap.objs.size], _, _, H1, rfl, I2, turn_enumT a (s1.heap.objs.size + 1) s1.heap.objs.size (Nat.ne_of_lt (Nat.lt_succ_of_lt hal)) (Nat.ne_of_lt hal), ⟨⟨.none, he⟩, ⟨_, hit, rfl, rfl⟩, Nat.succ_ne_self _⟩, fun b hb => ?_, q⟩
  have hle : s1.heap.objs.size ≤ b := by
    rcases (by simpa using hb : b = s1.heap.objs.size + 1 ∨ b = s1.heap.objs.size) with z | z
    · rw [z]; exact Nat.le_add_right _ _
    · rw [z]; exact Nat.le_refl _
  exact I1.fpOk hle (I1.hok.fresh hle)
theorem walk_enumT {K : PySem.W.Frag} {a : Addr} {xs : List V} : Walk (IteT K a) xs.length (fun H => SqT K H a xs) (YPair (fun i => some (.int (i : Nat))) (fun i => xs[i]?)) := by
  refine ⟨fun i _ hi q => ⟨xs, xs[i], q, by simp [hi]⟩, fun _ q => ⟨xs, q, Nat.le_refl _⟩, fun i H v H' _ q y => ?_⟩
  obtain ⟨T, x, h1, h2, h3, h4⟩ := y
  exact ⟨T, .int (i : Nat), x, h1, h2, h3, rfl, h4 xs q⟩
end My
set_option maxRecDepth 100000
set_option maxHeartbeats 4000000
namespace PySem.SeqAt
open PySem PySem.Spec PyProof.Rows
/-- tuple's own __lt__, called as sorting calls it -/
theorem call_tuple_lt {prog : Program} {w : World} {A : Around} {s : Shared} {E : Value → Shared → Prop} {Q : Value → Shared → Prop} {l b : Addr} {items items2 : Array Value} {e r : Nat → Bool} (hl : s.heap.IsTuple l items) (hb : s.heap.IsTuple b items2)
    (he : ∀ j (h1 : j < items.size) (h2 : j < items2.size), EqAt A.in1 s items[j] items2[j] (e j)) (hr : ∀ j (h1 : j < items.size) (h2 : j < items2.size), e j = false → RcLt A.in1 s items[j] items2[j] (r j))
    (h : Q (.bool (firstLt e r (decide (items.size < items2.size)) (List.range (min items.size items2.size)))) s) : wpAny (model prog w) A (call (.builtin "tuple.__lt__") [.ref l, .ref b]) Q E s := by
  obtain ⟨⟨cls, dd, data, sl⟩, ho, hc, n, hd⟩ := id hl
  obtain ⟨⟨cls2, dd2, data2, sl2⟩, ho2, hc2, n2, hd2⟩ := id hb
  simp only at hc hd hc2 hd2
  subst hc hd hc2 hd2
  exact call_meets F.slot_tuple_lt ⟨_, ho, rfl⟩ F.entry_tuple_lt (F.args_tuple_lt_2 _ _) (tuple_ltAt l b items items2 n n2 dd dd2 sl sl2 e r) ⟨ho, ho2, he, hr, h⟩
end PySem.SeqAt
namespace PySem.W
open PySem PySem.Calls PyProof.Rows PySem.SeqAt
abbrev encT (b : List Int) : PyData := .tuple (b.map .int)
abbrev encL (b : List Int) : PyData := .list (b.map .int)
section
variable {prog : Program} {w : World} {A : Around} {E : Value → Shared → Prop} {s : Shared}
theorem oneLt_tup {xs ys : List PyData} {a b : Value} {as bs : List Addr} {Q : Bool → Shared → Prop} (ra : Reads s.heap a (.tuple xs) as) (rb : Reads s.heap b (.tuple ys) bs) (hal : alikeAll xs ys = true)
    (hu : A.units + min (PyData.depth (.tuple xs)) (PyData.depth (.tuple ys)) < cLine) (hq : Q (dataLt (.tuple xs) (.tuple ys)) s) : wpAny (model prog w) A (oneLt' true a b) Q E s := by
  cases ra with
  | @tuple l o vs n _ as₁ h1 h2 h3 h4 =>
    cases rb with
    | @tuple l' o' vs' n' _ bs₁ k1 k2 k3 k4 =>
      have n1 : vs.size = xs.length := by simpa using ReadsAll.length _ _ _ h4
      have n2 : vs'.size = ys.length := by simpa using ReadsAll.length _ _ _ k4
      rw [dataLt_tuple, ← firstLt_toks xs ys hal, ← n1, ← n2] at hq
      rw [oneLt'_eq]
      simp only [if_true]
      refine wpAny_bind (wpAny_cRoomFor (room_here hu) ?_)
      refine wpAny_bind (wpAny_callSpecialIfBound?_slot (T := "tuple") ⟨_, h1, h2⟩ F.slot_tuple_lt (call_tuple_lt (e := pairEq xs ys) (r := fun j => dataLt (xs.getD j .none) (ys.getD j .none)) ⟨_, h1, h2, _, h3⟩ ⟨_, k1, k2, _, k3⟩ (fun j j1 j2 => ?_) (fun j j1 j2 hj => ?_) ?_))
      · have := eqAt_alikeAll xs ys A.in1 s vs.toList vs'.toList _ _ h4 k4 hal (room_in hu) j (by simpa using j1) (by simpa using j2)
        simpa using this
      · have := rcLt_alikeAll xs ys A.in1 s vs.toList vs'.toList _ _ h4 k4 hal (room_in hu) j (by simpa using j1) (by simpa using j2) hj
        simpa using this
      · exact wpAny_truthy_bool hq
end
/-! ### which kind of keys tuples of ints are -/
section
variable {M : Model} {A : Around} {E : Value → Shared → Prop} {s : Shared}
theorem tup_firsts : ∀ (vs : List Value) (bs : List (List Int)) {Q : List (Option Value) → Shared → Prop}, EachIs (fun v b => ∃ as, Reads s.heap v (encT b) as) vs bs → (∀ fs : List (Option Value), EachIs (fun f b => f.isSome = !b.isEmpty) fs bs → Q fs s) → wpAny M A (vs.mapM firstOfTuple') Q E s
  | [], [], _, _, h => by rw [List.mapM_nil]; exact wpAny_pure (h [] .nil)
  | [], _ :: _, _, e, _ => nomatch e
  | _ :: _, [], _, e, _ => nomatch e
  | v :: vs, b :: bs, Q, .cons ⟨as, r⟩ e, h => by
    rw [List.mapM_cons]
    refine wpAny_bind ?_
    rw [kas_first_eq]
    cases r with
    | @tuple a o xs n _ _ ho hc hd hr =>
      refine wpAny_bind (Looks.here (show Looks M s.heap (typeOf (.ref a)) o.cls from (Looks.ld ho).andThen .now) ?_)
      rw [hc, if_neg (by first | decide | simp)]
      refine wpAny_bind (listItems_at ho hd (wpAny_pure ?_))
      refine wpAny_bind (tup_firsts vs bs (Q := fun fs s' => wpAny M A (pure (xs[0]? :: fs)) Q E s') e fun fs hf => wpAny_pure (h _ (.cons ?_ hf)))
      have hl := SeqAt.ReadsAll.length _ _ _ hr
      rw [List.length_map] at hl
      have hl : xs.size = b.length := by simpa using hl
      cases b with
      | nil => rw [Array.getElem?_eq_none (by rw [hl]; exact Nat.zero_le _)]; rfl
      | cons x t => rw [Array.getElem?_eq_getElem (by rw [hl]; exact Nat.succ_pos _)]; rfl
theorem tup_kind {vs : List Value} {bs : List (List Int)} {Q : SortKind → Shared → Prop} (e : EachIs (fun v b => ∃ as, Reads s.heap v (encT b) as) vs bs) {b0 : List Int} {bt : List (List Int)} (hb : bs = b0 :: bt) (hne : [] ∈ bs)
    (h : Q (if b0.isEmpty then oneType' else general') s) : wpAny M A (keyKind' vs.toArray) Q E s := by
  rw [keyKind'_eq, List.mapM_toArray, map_eq_pure_bind]
  refine wpAny_bind (wpAny_bind (tup_firsts vs bs e fun fs hf => wpAny_pure ?_))
  have hall : ¬ (fs.toArray.all fun x => x.isSome) = true := fun z => by
    simp only [List.all_toArray, List.all_eq_true] at z
    have : ∀ {fs : List (Option Value)} {bs : List (List Int)}, EachIs (fun f b => f.isSome = !b.isEmpty) fs bs → (∀ f ∈ fs, f.isSome = true) → [] ∉ bs := by
      intro fs bs hf
      induction hf with
      | nil => intro _ h; cases h
      | cons h t ih =>
        intro z hm
        rcases List.mem_cons.mp hm with hm | hm
        · subst hm
          have := z _ List.mem_cons_self
          rw [h] at this
          cases this
        · exact ih (fun f hf => z f (List.mem_cons_of_mem _ hf)) hm
    exact this hf z hne
  rw [if_neg hall]
  subst hb
  cases hf with
  | @cons f _ ft _ h0 ht =>
  have e0 : ((f :: ft).toArray[0]?.bind id) = f := by simp
  rw [e0]
  cases b0 with
  | cons x t =>
    have h0 : f.isSome = true := h0
    rw [if_pos h0]
    exact wpAny_pure h
  | nil =>
    have h0 : f.isSome = false := h0
    rw [if_neg (by rw [h0]; decide)]
    rw [oneTypeOnly'_eq, List.mapM_toArray, map_eq_pure_bind]
    have tk : ∀ {vs : List Value} {bs : List (List Int)}, EachIs (fun v b => ∃ as, Reads s.heap v (encT b) as) vs bs → ∀ v ∈ vs, Looks M s.heap (typeOf v) (.type "tuple") := by
      intro vs bs e
      induction e with
      | nil => intro v hv; cases hv
      | cons h t ih =>
        intro v hv
        rcases List.mem_cons.mp hv with rfl | hv
        · obtain ⟨as, r⟩ := h
          exact looks_reads r
        · exact ih v hv
    refine wpAny_bind (wpAny_bind (wpAny_bind (kas_mapM (r := Value.type "tuple") _ (fun v hv Q' hq => (tk e v hv).here hq) (wpAny_pure ?_))))
    have hlen : 0 < vs.length := by rw [e.length]; exact Nat.succ_pos _
    have hall2 : ((List.map (fun _ => Value.type "tuple") vs).toArray.all fun x => x == Value.type "tuple") = true := by
      simp only [List.all_toArray, List.all_map, List.all_eq_true]
      intro _ _
      exact beq_self_eq_true _
    have h00 : (List.map (fun _ => Value.type "tuple") vs).toArray[0]? = some (Value.type "tuple") := by
      cases vs with
      | nil => cases hlen
      | cons a t => simp
    rw [h00]
    simp only [hall2, if_true]
    exact wpAny_pure (wpAny_pure h)
end
section
variable {prog : Program} {w : World} {A : Around} {E : Value → Shared → Prop} {s : Shared}
theorem alike_encT (b b' : List Int) : alike (encT b) (encT b') = true := by
  show alikeAll _ _ = true
  exact alike_ints b b'
theorem depth_encT (b : List Int) : (encT b).depth = 1 := by
  show PyData.depth (.tuple _) = 1
  simp only [PyData.depth]
  rw [depth_ints]
theorem SortsAt.tupI {vs : List Value} {bs : List (List Int)} (e : EachIs (fun v b => ∃ as, Reads s.heap v (encT b) as) vs bs) (hu : A.units + 2 < cLine) : SortsAt prog w A s (dataKind s.heap (bs.map encT)) vs := by
  have e' := each_map (R := fun v d => ∃ as, Reads s.heap v d as) encT e
  have hal : AllAlike (bs.map encT) := AllAlike.of fun b b' => alike_encT b b'
  have hd : ∀ d ∈ bs.map encT, A.units + d.depth < cLine := fun d hd => by
    obtain ⟨b, _, rfl⟩ := List.mem_map.mp hd
    rw [depth_encT]; omega
  by_cases hne : [] ∈ bs
  · cases bs with
    | nil => cases hne
    | cons b0 bt =>
    refine ⟨fun v hv => ?_, ⟨_, ?_, fun h2 E Q hq => tup_kind e rfl hne hq⟩⟩
    · obtain ⟨d, hd, as, r⟩ := e'.left v hv
      exact ⟨_, dataKind_some hal hd r⟩
    · intro E x y a b Q ha hb hq
      obtain ⟨d, as, hd1, ra, rfl⟩ := dataKind_inv ha
      obtain ⟨d', as', hd', rb, rfl⟩ := dataKind_inv hb
      have hq : Q (dataLt d d') s := hq
      obtain ⟨c, _, rfl⟩ := List.mem_map.mp hd1
      obtain ⟨c', _, rfl⟩ := List.mem_map.mp hd'
      have hroom : A.units + min (encT c).depth (encT c').depth < cLine := by rw [depth_encT, depth_encT]; omega
      split
      · rw [keyLt'_oneType]
        exact oneLt_tup ra rb (alike_ints c c') hroom hq
      · show wpAny _ _ (oneLt' false x y) _ _ _
        exact oneLt_alike (fun z => nomatch z) ra rb (alike_encT c c') (fun z => nomatch z) hroom hq
  · exact SortsAt.data e' hal (.inl fun d hd => by
      obtain ⟨b, hb, rfl⟩ := List.mem_map.mp hd
      cases b with
      | nil => exact absurd hb hne
      | cons x t => exact ⟨_, _, rfl⟩) hd
theorem dataLe_encT : dataLe false encT = fun p q : List Int => decide (p ≤ q) := by
  rw [← dataLe_rows (fun b : List Int => b)]
  funext p q
  show (!dataLt (encT q) (encT p)) = !dataLt (encL q) (encL p)
  rw [show dataLt (encT q) (encT p) = dataLt (encL q) (encL p) from (dataLt_tuple _ _).trans (dataLt_list _ _).symm]
/-- sorted of tuples of ints, empty ones among them -/
theorem sorted_tupsI {l : Addr} {vs : List Value} {bs : List (List Int)} {R : Value → List Int → Prop} {Q : Value → Shared → Prop} (hl : s.heap.IsList l vs.toArray) (e : EachIs R vs bs) (er : EachIs (fun v b => ∃ as, Reads s.heap v (encT b) as) vs bs) (hL : bs.length ≤ sizeLine)
    (hu : A.units + 4 < cLine) (h : ∀ out, out.length = bs.length → EachIs R out (bs.mergeSort fun p q => decide (p ≤ q)) → Q (.ref (s.heap.objs.size + 1)) { s with heap := sortedAll s.heap vs (List.toArray out) }) :
    wpAny (model prog w) A (call (.builtin "sorted") [.ref l]) Q E s := by
  have er' : EachIs (fun v b => ∃ as, Reads (sortingHeap (copyHeap s.heap vs) (s.heap.objs.size + 1) vs) v (encT b) as) vs bs := er.mono fun _ _ ⟨as, r⟩ => ⟨as, PyProof.Rows.Reads.keeps (fun _ _ => sorting_copy_old) r⟩
  refine sorted_vals hl (SortsAt.tupI (s := { s with heap := sortingHeap (copyHeap s.heap vs) (s.heap.objs.size + 1) vs }) er' (by show A.units + 1 + 1 + 2 < cLine; omega)) (by rw [e.length]; exact hL) ?_
  refine h _ (by rw [sortVals_length false rfl]; exact e.length) ?_
  have := sortVals_data false e er' (AllAlike.of fun b b' => alike_encT b b')
  rw [dataLe_encT] at this
  exact this
end
end PySem.W
namespace L2
open PySem PySem.Spec PyProof.Rows PySem.W
theorem vals_each {Rv : V → List Int → Prop} : ∀ {xs : List V} {us : List Value} {bs : List (List Int)}, Vals xs us → EachIs Rv xs bs → EachIs (fun v b => ∃ x, RelV x v ∧ Rv x b) us bs
  | _, _, _, .nil, .nil => .nil
  | _, _, _, .cons r t, .cons h e => .cons ⟨_, r, h⟩ (vals_each t e)
theorem each_vals {Rv : V → List Int → Prop} : ∀ {us : List Value} {bs : List (List Int)}, EachIs (fun v b => ∃ x, RelV x v ∧ Rv x b) us bs → ∃ ys, Vals ys us ∧ EachIs Rv ys bs
  | _, _, .nil => ⟨[], .nil, .nil⟩
  | _, _, .cons ⟨x, r, h⟩ e => let ⟨ys, a, b⟩ := each_vals e; ⟨x :: ys, .cons r a, .cons h b⟩
def rSortD (K : PySem.W.Frag) (enc : List Int → PyData) : List V → Hp → VK → Prop := fun vs H Q => ∃ (a : Addr) (xs : List V) (bs : List (List Int)) (Rv : V → List Int → Prop), vs = [.ref a] ∧ SqL K H a xs ∧ EachIs Rv xs bs ∧ (∀ x b, Rv x b → Dp K H x (enc b)) ∧
  ∀ ys p, EachIs Rv ys (bs.mergeSort fun p q => decide (p ≤ q)) → H p = none → Q (.ref p) (upd H p (.lst ys))
section
variable {X : Cx}
theorem cr_sortTI (hu : X.A.units + 10 < cLine) : CallR X (.builtin "sorted") (rSortD X.K encT) := by
  intro pins s σ H vs us Q I r h
  obtain ⟨a, xs, bs, Rv, rfl, hs, hx, hd, q⟩ := h
  obtain ⟨its, rv, hl, hz⟩ := I.list hs
  obtain ⟨u, rfl, ru⟩ := vals1 r
  obtain rfl : u = Value.ref a := ru
  have e := vals_each rv hx
  have er : EachIs (fun v b => ∃ as, Reads s.heap v (encT b) as) its bs := e.mono fun v b ⟨x, rx, hr⟩ => Dp.reads I _ _ _ (hd x b hr) rx
  have hbl : bs.length = its.length := e.length.symm
  refine sorted_tupsI hl.isList e er (by rw [hbl, ← rv.length]; exact hz) (by omega) fun out ho eo => ?_
  obtain ⟨ys, vy, ey⟩ := each_vals eo
  obtain ⟨ep, he'⟩ := PyProof.Rows.sortedAll_at s.heap its (List.toArray out)
  have hlen : ys.length ≤ sizeLine := by rw [vy.length, ho, hbl, ← rv.length]; exact hz
  exact ⟨.ref _, upd H (s.heap.objs.size + 1) (.lst ys), I.laid (t' := s.toks) (fun _ _ => PyProof.Rows.sortedAll_old) (Nat.le_succ _) ⟨hlen, out, ep, vy, he'⟩, rfl, q _ _ ey (I.hok.fresh (Nat.le_succ _))⟩
theorem cr_sortLI (hu : X.A.units + 10 < cLine) : CallR X (.builtin "sorted") (rSortD X.K encL) := by
  intro pins s σ H vs us Q I r h
  obtain ⟨a, xs, bs, Rv, rfl, hs, hx, hd, q⟩ := h
  obtain ⟨its, rv, hl, hz⟩ := I.list hs
  obtain ⟨u, rfl, ru⟩ := vals1 r
  obtain rfl : u = Value.ref a := ru
  have e := vals_each rv hx
  have er : EachIs (fun v b => ∃ as, Reads s.heap v (encL b) as) its bs := e.mono fun v b ⟨x, rx, hr⟩ => Dp.reads I _ _ _ (hd x b hr) rx
  have hbl : bs.length = its.length := e.length.symm
  refine sorted_data hl.isList e er (AllAlike.of fun b b' => by show alikeAll _ _ = true; exact alike_ints b b') (Sortable.others fun b => ⟨fun z => (nomatch z), fun _ z => (nomatch z)⟩) (by rw [hbl, ← rv.length]; exact hz) (fun b _ => ?_) fun out ho eo => ?_
  · have : (encL b).depth = 1 := by show PyData.depth (.list _) = 1; simp only [PyData.depth]; rw [depth_ints]
    omega
  rw [show dataLe false encL = fun p q : List Int => decide (p ≤ q) from dataLe_rows (fun b : List Int => b)] at eo
  obtain ⟨ys, vy, ey⟩ := each_vals eo
  obtain ⟨ep, he'⟩ := PyProof.Rows.sortedAll_at s.heap its (List.toArray out)
  have hlen : ys.length ≤ sizeLine := by rw [vy.length, ho, hbl, ← rv.length]; exact hz
  exact ⟨.ref _, upd H (s.heap.objs.size + 1) (.lst ys), I.laid (t' := s.toks) (fun _ _ => PyProof.Rows.sortedAll_old) (Nat.le_succ _) ⟨hlen, out, ep, vy, he'⟩, rfl, q _ _ ey (I.hok.fresh (Nat.le_succ _))⟩
end
end L2
set_option maxRecDepth 100000
set_option maxHeartbeats 4000000
namespace My
open PySem L2 PySem.Spec PyProof.Rows
section
variable {X : Cx} {CX : CXT} {n : Nat} {f C : Addr} {fd : FuncData} {ps : List Str} {sp : Sp}
/-- a promise that may raise, called anywhere in the running body -/
theorem call_atS {σ : L2.St} {E : XK} (G0 : FnOk X.prog X.w X.K X.mg X.base CX n f fd ps sp) (hb : Binds X.K fd ps []) (hx : PassesAt CX X σ E) {A : Around} (hr : Room n A) (hA : A.frames = X.A.frames)
    {pins : List (Addr × Obj)} {s : Shared} {H : Hp} (I : Inv X pins σ H s) {vs : List V} {us : List Value} (r : Vals vs us) {Q : VK} (h : sp vs H Q E) :
    wpAny (model X.prog X.w) A (call (.ref f) us) (EP X pins σ Q) X.xe s := by
  have e0 : Env0 X.prog X.w X.K X.mg X.base A X.stack s H := by
    have e := I.env0
    exact ⟨by rw [hA]; exact e.frames, e.mod, e.bs, e.bsz, e.funs, e.frf, e.hok, e.bare⟩
  have hl := G0.len _ _ _ _ h
  refine wpAny_call (codeAny_mono (G0.run A X.stack s H ⟨us, []⟩ us vs Q E hr e0 (by
    have := hb s us I.kIn (by rw [List.append_nil, ← r.length]; exact hl)
    simpa using this) r h) fun r s' hq => ?_)
  cases r with
  | error e => exact hx pins H s e s' I hq
  | ok fl =>
    cases fl with
    | ret w => exact I.after hq
    | next => exact False.elim hq
    | brk => exact False.elim hq
    | cont => exact False.elim hq
/-- a[b], a an instance of the class at C with its own __getitem__ -/
def tIxOwn (C : Addr) (sp : Sp) (E : L2.St → XK) (ta tb : TE) : TE := fun σ H Q => ta σ H fun x H1 => tb σ H1 fun y H2 => ∃ p dx fs, x = .ref p ∧ H2 p = some (.ins C dx fs) ∧ sp [.ref p, y] H2 Q (E σ)
theorem pe_ixOwn {a b : Expr} {ta tb : TE} {pos : Pos} {E : L2.St → XK} (G0 : FnOk X.prog X.w X.K X.mg X.base CX n f fd ps sp) (hb : Binds X.K fd ps []) (hx : ∀ σ, PassesAt CX X σ (E σ)) (hr : Room (n + 1) X.A)
    (hs : PySem.W.findIn X.K (.ref C) "__getitem__" = some (some (.ref f))) (hf : PySem.W.fnIn X.K f = true) (hfn : PySem.W.isFn X.K (.ref f) = true) (ha : PE X a ta) (hbb : PE X b tb)
    (hsl : ∀ x i, subscripted b true (.ref x) i = runValue (.builtin "lifetime.subscript" ⟨[.ref x, i], []⟩)) : PE X (.Subscript a b pos) (tIxOwn C sp E ta tb) := by
  refine ⟨fun pins s σ H Q I h => ?_⟩
  refine Subscript_ (binT ha hbb I h fun v u s2 x y H2 I2 rx ry q => ?_)
  obtain ⟨p, dx, fs, rfl, hp, q⟩ := q
  cases rx
  obtain ⟨mA, J, _⟩ := ins_get I2.hok hp
  obtain ⟨od, J, _⟩ := J.look
  obtain ⟨m, hF⟩ := I2.fr
  exact PySem.W.sub_K hF I2.ok.mod.kin J hs hf hfn (call_atS G0 hb (hx σ) (A := X.A.in1) hr.in1 rfl I2 (vs := [.ref p, y]) (.cons rfl (.cons ry .nil)) q) (hsl _ _)
end
end My
set_option maxRecDepth 100000
set_option maxHeartbeats 4000000
namespace My
open PySem L2 PySem.Spec PyProof.Rows
/-- the truth of a value, inside a comprehension -/
def tTruK (K : PySem.W.Frag) (ta : TE) : TT := fun σ H Q => ta σ H fun x H' => ∃ k, TruV K x H' k ∧ Q k H'
section
variable {X : Cx} {CX : CXT} {E : XK} {n : Nat} {f C : Addr} {fd : FuncData} {ps : List Str} {sp : Sp}
/-- len(x), x an instance of the class at C with its own __len__ -/
def rLenOwn (C : Addr) (sp : Sp) (E : XK) : List V → Hp → VK → Prop := fun xs H Q => ∃ a dx fs, xs = [V.ref a] ∧ H a = some (.ins C dx fs) ∧ sp [.ref a] H (fun v H' => ∃ k : Nat, v = .int (k : Int) ∧ k ≤ 1000000 ∧ Q (.int (k : Int)) H') E
theorem call_lenOwn (G0 : FnOk X.prog X.w X.K X.mg X.base CX n f fd ps sp) (hb : Binds X.K fd ps []) (hx : Passes CX X E) (hr : Room (n + 1) X.A)
    (hs : PySem.W.findIn X.K (.ref C) "__len__" = some (some (.ref f))) (hf : PySem.W.isFn X.K (.ref f) = true) :
    CallR X (.builtin "len") (rLenOwn C sp E) := by
  intro pins s σ H xs us Q I r h
  obtain ⟨a, dx, fs, rfl, ha, q⟩ := h
  obtain ⟨u, rfl, r1⟩ := vals1 r
  cases r1
  obtain ⟨mA, J, _⟩ := ins_get I.hok ha
  obtain ⟨od, J, _⟩ := J.look
  obtain ⟨m, hF⟩ := I.fr
  refine PySem.W.len_K hF I.ok.mod.kin J hs hf (wpAny_mono (call_at G0 hb hx (A := X.A.in1) hr.in1 rfl I (vs := [.ref a]) (.cons rfl .nil) q) (fun v s' z => ?_) fun _ _ z => z)
  obtain ⟨x, H1, I1, r1, k, rfl, hk, z⟩ := z
  obtain ⟨tk, rfl⟩ := r1
  exact ⟨⟨Int.natCast_nonneg _, by omega⟩, .int (k : Int), H1, by first | exact I1.tok _ | exact I1, ⟨_, rfl⟩, z⟩
/-- isinstance(e, (c1, c2)) of a caught error with fields -/
def rIsET (K : PySem.W.Frag) (a : Addr) (cls : Value) (d : Option Addr) : List V → Hp → VK → Prop := fun xs H Q => ∃ D dd fs, cls = .ref D ∧ d = some dd ∧ H dd = some (.xd fs) ∧ ExcC K D ∧
  ∃ (tp : Addr) (cs : List V) (us : List Value) (b : Bool), xs = [.ref a, .ref tp] ∧ H tp = some (.tup cs) ∧ Paired ClsV cs us ∧ PySem.W.kitAny K (.ref D) us = some b ∧ Q (.bl b) H
theorem call_isExT {a : Addr} {oe : Obj} {cls : Value} {d : Option Addr} {pn : List (Addr × Obj)} (hz : Zc cls d oe) (hf : ∃ vs, oe.data = .fields vs) :
    CallR (X.suite a ((a, oe) :: pn)) (.builtin "isinstance") (rIsET X.K a cls d) := by
  intro pins s σ H xs us Q I r h
  obtain ⟨D, dd, fs, rfl, rfl, hd, C, tp, cs, ws, b, rfl, hT, k, e, q⟩ := h
  obtain ⟨u1, u2, rfl, r1, r2⟩ := vals2 r
  cases (show u2 = Value.ref tp from r2)
  cases (show u1 = Value.ref a from r1)
  obtain ⟨hget, _⟩ := I.pin (a, oe) (List.mem_append.mpr (.inl List.mem_cons_self))
  obtain ⟨vs, hv⟩ := hf
  have hx : ObjOk X.prog X.w H s.heap dd (.xd fs) := I.hok dd _ hd
  obtain ⟨mA, ⟨od, es, ep, ho, _⟩, _⟩ := hx
  have J : PySem.W.InstAt s.heap a oe D (some od) := ⟨hget, hz.1, by unfold PySem.W.notCls; rw [hv] <;> rfl, by rw [hz.2]; exact ho⟩
  obtain ⟨cdD, hcD, _⟩ := PySem.W.any_some C.hd
  obtain ⟨_, its, rv, o, h1, h2, n, h3⟩ := (show ObjOk X.prog X.w H s.heap tp (.tup cs) from I.hok tp _ hT)
  have e3 := ClsV.all k rv
  subst e3
  obtain ⟨oc, od2, dt, sl⟩ := o
  simp only at h2 h3
  subst h2 h3
  exact PySem.W.kia_tup (PySem.W.kitx_exc (od := some od) (by rw [hcD]; rfl) C.hg C.hk C.hs C.ha C.hn C.ht C.hm) I.kIn J h1 e (fun z => nomatch z) fun tk => ⟨.bl b, H, I.tok tk, rfl, q⟩
theorem band (a b : Nat) : Builtin.bitAnd (a : Int) (b : Int) = ((a &&& b : Nat) : Int) := by
  unfold Builtin.bitAnd
  simp
theorem bor (a b : Nat) : Builtin.bitOr (a : Int) (b : Int) = ((a ||| b : Nat) : Int) := by
  rw [bitOr_nn (Int.natCast_nonneg _) (Int.natCast_nonneg _), Int.toNat_natCast, Int.toNat_natCast]
theorem op_andN {X : Cx} : OpR X (binaryOp .BitAnd) (fun x y H Q => ∃ a b : Nat, x = .int (a : Int) ∧ y = .int (b : Int) ∧ Q (.int ((a &&& b : Nat) : Int)) H) := by
  intro pins s σ H x y v u Q I rx ry h
  obtain ⟨a, b, rfl, rfl, q⟩ := h
  rw [← band] at q
  exact op_and pins s σ H _ _ v u Q I rx ry ⟨_, _, rfl, rfl, q⟩
theorem op_orN {X : Cx} : OpR X (binaryOp .BitOr) (fun x y H Q => ∃ a b : Nat, x = .int (a : Int) ∧ y = .int (b : Int) ∧ Q (.int ((a ||| b : Nat) : Int)) H) := by
  intro pins s σ H x y v u Q I rx ry h
  obtain ⟨a, b, rfl, rfl, q⟩ := h
  rw [← bor] at q
  exact op_or pins s σ H _ _ v u Q I rx ry ⟨_, _, rfl, rfl, q⟩
end
end My
set_option maxRecDepth 100000
set_option maxHeartbeats 4000000
namespace My
open PySem L2
def top (i : Nat) : Stmt := PySem.Challenge.pw_unbrokenrows_k24_steps_followed.main.body.getD i (.Pass ⟨0, 0, 0, 0⟩)
abbrev s_BadStep_init : Stmt := inClass (top 7) 0
abbrev s_is_name : Stmt := top 10
abbrev s_first_bad_name : Stmt := top 11
abbrev s_first_stray : Stmt := top 12
abbrev s_numbers_in : Stmt := top 14
abbrev s_names_in : Stmt := top 15
abbrev s_mask_of : Stmt := top 16
abbrev s_check_columns : Stmt := top 18
abbrev s_check_rows : Stmt := top 19
abbrev s_Table_in_order : Stmt := inClass (top 20) 3
abbrev s_Table_init : Stmt := inClass (top 20) 2
abbrev s_Table_getitem : Stmt := inClass (top 20) 18
abbrev s_Table_len : Stmt := inClass (top 20) 19
abbrev s_follow : Stmt := top 22
abbrev s_step_mask : Stmt := top 23
abbrev s_combined : Stmt := top 24
abbrev s_law_cell : Stmt := top 26
abbrev s_law_pool : Stmt := top 27
abbrev s_law_size : Stmt := top 28
abbrev s_law_names : Stmt := top 29
abbrev s_law_order : Stmt := top 30
abbrev s_law_row : Stmt := top 31
abbrev s_law_rows : Stmt := top 32
abbrev s_law_sorted : Stmt := top 33
abbrev s_law_is_number : Stmt := top 34
abbrev s_law_step : Stmt := top 35
abbrev s_law_drawn : Stmt := top 36
abbrev s_law_instead : Stmt := top 37
abbrev s_law_pair : Stmt := top 38
abbrev s_law_bad : Stmt := top 39
abbrev s_law_same : Stmt := top 40
abbrev s_law_refusal : Stmt := top 41
abbrev s_law : Stmt := top 42
theorem ss_BadStep_init : SupScope ["self", "index"] ["self", "index"] (defScope s_BadStep_init) := ⟨rfl, rfl, rfl, by decide +kernel, rfl, by decide +kernel, by decide +kernel, by decide +kernel, rfl, rfl⟩
theorem sc_is_name : FnScope ["text", "sign"] ["text"] (defScope s_is_name) := ⟨rfl, rfl, rfl, by decide +kernel, rfl, by decide +kernel, by decide +kernel⟩
theorem sc_first_bad_name : FnScope ["names", "index", "name"] ["names"] (defScope s_first_bad_name) := ⟨rfl, rfl, rfl, by decide +kernel, rfl, by decide +kernel, by decide +kernel⟩
theorem sc_first_stray : FnScope ["columns", "names", "index", "name"] ["columns", "names"] (defScope s_first_stray) := ⟨rfl, rfl, rfl, by decide +kernel, rfl, by decide +kernel, by decide +kernel⟩
theorem sc_numbers_in : FnScope ["mask", "number"] ["mask"] (defScope s_numbers_in) := ⟨rfl, rfl, rfl, by decide +kernel, rfl, by decide +kernel, by decide +kernel⟩
theorem sc_names_in : FnScope ["mask", "columns", "number"] ["mask", "columns"] (defScope s_names_in) := ⟨rfl, rfl, rfl, by decide +kernel, rfl, by decide +kernel, by decide +kernel⟩
theorem sc_mask_of : FnScope ["names", "columns", "number", "name"] ["names", "columns"] (defScope s_mask_of) := ⟨rfl, rfl, rfl, by decide +kernel, rfl, by decide +kernel, by decide +kernel⟩
theorem sc_check_columns : FnScope ["columns", "index"] ["columns"] (defScope s_check_columns) := ⟨rfl, rfl, rfl, by decide +kernel, rfl, by decide +kernel, by decide +kernel⟩
theorem sc_check_rows : FnScope ["columns", "rows", "index", "row"] ["columns", "rows"] (defScope s_check_rows) := ⟨rfl, rfl, rfl, by decide +kernel, rfl, by decide +kernel, by decide +kernel⟩
theorem sc_Table_in_order : FnScope ["self", "names", "name"] ["self", "names"] (defScope s_Table_in_order) := ⟨rfl, rfl, rfl, by decide +kernel, rfl, by decide +kernel, by decide +kernel⟩
theorem sc_Table_init : FnScope ["self", "columns", "rows", "row"] ["self", "columns", "rows"] (defScope s_Table_init) := ⟨rfl, rfl, rfl, by decide +kernel, rfl, by decide +kernel, by decide +kernel⟩
theorem sc_Table_getitem : FnScope ["self", "at"] ["self", "at"] (defScope s_Table_getitem) := ⟨rfl, rfl, rfl, by decide +kernel, rfl, by decide +kernel, by decide +kernel⟩
theorem sc_Table_len : FnScope ["self"] ["self"] (defScope s_Table_len) := ⟨rfl, rfl, rfl, by decide +kernel, rfl, by decide +kernel, by decide +kernel⟩
theorem sc_follow : FnScope ["table", "steps", "masks", "index", "step", "mask"] ["table", "steps"] (defScope s_follow) := ⟨rfl, rfl, rfl, by decide +kernel, rfl, by decide +kernel, by decide +kernel⟩
theorem sc_step_mask : FnScope ["table", "step", "masks", "word"] ["table", "step", "masks"] (defScope s_step_mask) := ⟨rfl, rfl, rfl, by decide +kernel, rfl, by decide +kernel, by decide +kernel⟩
theorem sc_combined : FnScope ["word", "one", "other", "common"] ["word", "one", "other"] (defScope s_combined) := ⟨rfl, rfl, rfl, by decide +kernel, rfl, by decide +kernel, by decide +kernel⟩
theorem sc_law_cell : FnScope ["script", "k"] ["script", "k"] (defScope s_law_cell) := ⟨rfl, rfl, rfl, by decide +kernel, rfl, by decide +kernel, by decide +kernel⟩
theorem sc_law_pool : FnScope ["script", "k", "count", "value", "pool", "i", "first", "second", "third"] ["script", "k", "count"] (defScope s_law_pool) := ⟨rfl, rfl, rfl, by decide +kernel, rfl, by decide +kernel, by decide +kernel⟩
theorem sc_law_size : FnScope ["draw", "most", "sizes"] ["draw", "most"] (defScope s_law_size) := ⟨rfl, rfl, rfl, by decide +kernel, rfl, by decide +kernel, by decide +kernel⟩
theorem sc_law_names : FnScope ["count", "seed", "words", "cut", "names", "k", "core", "left", "right"] ["count", "seed"] (defScope s_law_names) := ⟨rfl, rfl, rfl, by decide +kernel, rfl, by decide +kernel, by decide +kernel⟩
theorem sc_law_order : FnScope ["names", "pool", "start", "left", "order", "k", "pick"] ["names", "pool", "start"] (defScope s_law_order) := ⟨rfl, rfl, rfl, by decide +kernel, rfl, by decide +kernel, by decide +kernel⟩
theorem sc_law_row : FnScope ["names", "hidden", "draw", "free", "row", "name", "size", "first", "width", "cut"] ["names", "hidden", "draw", "free"] (defScope s_law_row) := ⟨rfl, rfl, rfl, by decide +kernel, rfl, by decide +kernel, by decide +kernel⟩
theorem sc_law_rows : FnScope ["names", "hidden", "pool", "start", "count", "mode", "rows", "k", "free"] ["names", "hidden", "pool", "start", "count", "mode"] (defScope s_law_rows) := ⟨rfl, rfl, rfl, by decide +kernel, rfl, by decide +kernel, by decide +kernel⟩
theorem sc_law_sorted : FnScope ["names", "row", "name"] ["names", "row"] (defScope s_law_sorted) := ⟨rfl, rfl, rfl, by decide +kernel, rfl, by decide +kernel, by decide +kernel⟩
theorem sc_law_is_number : FnScope ["value", "least", "most"] ["value", "least", "most"] (defScope s_law_is_number) := ⟨rfl, rfl, rfl, by decide +kernel, rfl, by decide +kernel, by decide +kernel⟩
theorem sc_law_step : FnScope ["step", "sets", "names", "rows", "made", "one", "other", "both", "name"] ["step", "sets", "names", "rows"] (defScope s_law_step) := ⟨rfl, rfl, rfl, by decide +kernel, rfl, by decide +kernel, by decide +kernel⟩
theorem sc_law_drawn : FnScope ["draw", "k", "names", "rows", "one", "other", "word", "known"] ["draw", "k", "names", "rows"] (defScope s_law_drawn) := ⟨rfl, rfl, rfl, by decide +kernel, rfl, by decide +kernel, by decide +kernel⟩
theorem sc_law_instead : FnScope ["word", "draw", "sets", "names", "rows", "many", "k", "step", "full", "i"] ["word", "draw", "sets", "names", "rows"] (defScope s_law_instead) := ⟨rfl, rfl, rfl, by decide +kernel, rfl, by decide +kernel, by decide +kernel⟩
theorem sc_law_pair : FnScope ["sets", "nested", "many", "i", "j", "both", "name"] ["sets", "nested"] (defScope s_law_pair) := ⟨rfl, rfl, rfl, by decide +kernel, rfl, by decide +kernel, by decide +kernel⟩
theorem sc_law_bad : FnScope ["draw", "sets", "rows", "many", "kinds"] ["draw", "sets", "rows"] (defScope s_law_bad) := ⟨rfl, rfl, rfl, by decide +kernel, rfl, by decide +kernel, by decide +kernel⟩
theorem sc_law_same : FnScope ["found", "sets", "k"] ["found", "sets"] (defScope s_law_same) := ⟨rfl, rfl, rfl, by decide +kernel, rfl, by decide +kernel, by decide +kernel⟩
theorem sc_law_refusal : FnScope ["table", "steps", "told", "e"] ["table", "steps"] (defScope s_law_refusal) := ⟨rfl, rfl, rfl, by decide +kernel, rfl, by decide +kernel, by decide +kernel⟩
theorem sc_law : FnScope ["script", "p0", "p1", "p2", "size", "names", "hidden", "mode", "rows", "cell", "good", "sets", "bad", "k", "step", "made", "behind", "handed", "table", "found", "told", "row"] ["script"] (defScope s_law) := ⟨rfl, rfl, rfl, by decide +kernel, rfl, by decide +kernel, by decide +kernel⟩
theorem hu10 {A : Around} {k : Nat} (hr : Room k A) : A.units + 10 < cLine := by have := hr.un; omega
/-- text * int -/
theorem op_mulS {X : Cx} : OpR X (binaryOp .Mult) (fun x y H Q => ∃ (z : Str) (n : Int), x = .str z ∧ y = .int n ∧ MulOk z n ∧ Q (.str (Txt.mul z n)) H) := by
  intro pins s σ H x y v u Q I rx ry h
  obtain ⟨z, n, rfl, rfl, ok, q⟩ := h
  obtain ⟨t, rfl⟩ := rx
  obtain ⟨t', rfl⟩ := ry
  exact PySem.SB.mul ok fun t' k => ⟨.str (Txt.mul z n), H, I.tok _, ⟨_, rfl⟩, q⟩
def rLen2 (K : PySem.W.Frag) : List V → Hp → VK → Prop := fun xs H Q => ∃ p ys, xs = [.ref p] ∧ (SqL K H p ys ∨ SqT K H p ys) ∧ Q (.int ys.length) H
def rListOf (K : PySem.W.Frag) : List V → Hp → VK → Prop := fun xs H Q => ∃ p ys, xs = [.ref p] ∧ (SqL K H p ys ∨ SqT K H p ys) ∧ ∀ l, H l = none → Q (.ref l) (upd H l (.lst ys))
def rTupOf (K : PySem.W.Frag) : List V → Hp → VK → Prop := fun xs H Q => ∃ p ys, xs = [.ref p] ∧ ((SqL K H p ys ∧ ∀ l, H l = none → Q (.ref l) (upd H l (.tup ys))) ∨ (SqT K H p ys ∧ Q (.ref p) H))
/-! ### texts in lists -/
abbrev sv (ss : List Str) : List V := ss.map V.str
theorem len_sv (ss : List Str) : (sv ss).length = ss.length := List.length_map ..
theorem flat_sv (ss : List Str) : (sv ss).all flatV = true := by
  rw [List.all_eq_true]; intro x hx; obtain ⟨s, _, rfl⟩ := List.mem_map.mp hx; rfl
theorem eqV_str (a b : Str) : eqV (.str a) (.str b) = decide (a = b) := by
  first | rfl | (simp only [eqV]; by_cases h : a = b <;> simp [h])
theorem inV_str (x : Str) (ss : List Str) : inV (.str x) (sv ss) = decide (x ∈ ss) := by
  unfold inV
  rw [Bool.eq_iff_iff, List.any_eq_true, decide_eq_true_iff]
  constructor
  · rintro ⟨y, hy, e⟩
    obtain ⟨s, hs, rfl⟩ := List.mem_map.mp hy
    rw [eqV_str, decide_eq_true_iff] at e
    rw [← e]; exact hs
  · intro h
    exact ⟨.str x, List.mem_map.mpr ⟨x, h, rfl⟩, by rw [eqV_str]; simp⟩
theorem sv_get {ss : List Str} {i : Nat} {v : V} (h : (sv ss)[i]? = some v) : ∃ s, ss[i]? = some s ∧ v = .str s := by
  rw [List.getElem?_map] at h
  cases e : ss[i]? with
  | none => rw [e] at h; cases h
  | some t => rw [e] at h; exact ⟨t, rfl, (Option.some.inj h).symm⟩
theorem cut_take {xs : List V} {k : Nat} (h : k ≤ xs.length) : cutV xs none (some (k : Int)) = xs.take k := by
  unfold cutV
  rw [HT.sIx_none, HT.sIx_nat, Nat.min_eq_left h]
  simp
theorem cut_drop {xs : List V} {k : Nat} (h : k ≤ xs.length) : cutV xs (some (k : Int)) none = xs.drop k := by
  unfold cutV
  rw [HT.sIx_none, HT.sIx_nat, Nat.min_eq_left h]
  rw [List.take_of_length_le (by rw [List.length_drop]; exact Nat.le_refl _)]
theorem sv_take (ss : List Str) (k : Nat) : (sv ss).take k = sv (ss.take k) := List.map_take.symm
theorem sv_drop (ss : List Str) (k : Nat) : (sv ss).drop k = sv (ss.drop k) := List.map_drop.symm
/-! ### names -/
def Letters (l : List Nat) : Prop := ∀ c ∈ l, 97 ≤ c ∧ c ≤ 122
structure Good (z : Str) : Prop where
  pos : 1 ≤ z.length
  le : z.length ≤ 8
  let_ : Letters z.cps.toList
/-! ### the first stray of a list -/
def badAt (cs ns : List Str) (i : Nat) : Bool := match ns[i]? with | some x => !decide (x ∈ cs) || decide (x ∈ ns.take i) | none => false
def stray (cs ns : List Str) : Option Nat := (List.range ns.length).find? (badAt cs ns)
def fault (cs ns : List Str) : Option Nat := match stray cs ns with | some i => some i | none => if ns.length < cs.length then some ns.length else none
def optV : Option Nat → V
  | none => .non
  | some i => .int (i : Nat)
theorem stray_some {cs ns : List Str} {i : Nat} (hi : i < ns.length) (h1 : badAt cs ns i = true) (h2 : ∀ j, j < i → badAt cs ns j = false) : stray cs ns = some i := by
  unfold stray
  rw [List.find?_range_eq_some]
  exact ⟨h1, List.mem_range.mpr hi, fun j hj => by rw [h2 j hj]; rfl⟩
theorem stray_none {cs ns : List Str} (h2 : ∀ j, j < ns.length → badAt cs ns j = false) : stray cs ns = none := by
  unfold stray
  rw [List.find?_eq_none]
  intro j hj
  rw [h2 j (List.mem_range.mp hj)]
  exact Bool.false_ne_true
theorem stray_none_iff {cs ns : List Str} : stray cs ns = none ↔ (∀ x ∈ ns, x ∈ cs) ∧ ns.Nodup := by
  unfold stray
  rw [List.find?_eq_none]
  constructor
  · intro h
    have hb : ∀ i (hi : i < ns.length), ns[i] ∈ cs ∧ ns[i] ∉ ns.take i := fun i hi => by
      have := h i (List.mem_range.mpr hi)
      unfold badAt at this
      rw [List.getElem?_eq_getElem hi] at this
      simpa using this
    refine ⟨fun x hx => ?_, ?_⟩
    · obtain ⟨i, hi, rfl⟩ := List.getElem_of_mem hx
      exact (hb i hi).1
    · rw [List.nodup_iff_pairwise_ne, List.pairwise_iff_getElem]
      intro i j hi hj hij e
      refine (hb j hj).2 ?_
      rw [← e]
      exact List.mem_take_iff_getElem.mpr ⟨i, by omega, rfl⟩
  · rintro ⟨h1, h2⟩ i hi
    have hi := List.mem_range.mp hi
    unfold badAt
    rw [List.getElem?_eq_getElem hi]
    have a := h1 _ (List.getElem_mem hi)
    have b : ns[i] ∉ ns.take i := fun hm => by
      obtain ⟨j, hj, e⟩ := List.mem_take_iff_getElem.mp hm
      rw [List.nodup_iff_pairwise_ne, List.pairwise_iff_getElem] at h2
      exact h2 j i (by omega) hi (by omega) e
    simp [a, b]
theorem fault_none {cs ns : List Str} (h1 : ∀ x ∈ ns, x ∈ cs) (h2 : ns.Nodup) (h3 : cs.length ≤ ns.length) : fault cs ns = none := by
  unfold fault
  rw [stray_none_iff.mpr ⟨h1, h2⟩]
  show (if ns.length < cs.length then _ else _) = _
  rw [if_neg (by omega)]
/-- the law's list of what is wrong -/
def wrongs (cs ns : List Str) : List Nat := (List.range ns.length).filter (badAt cs ns) ++ if ns.length < cs.length then [ns.length] else []
theorem wrongs_head (cs ns : List Str) : (wrongs cs ns).head? = fault cs ns := by
  unfold wrongs fault stray
  rw [List.head?_append, List.head?_filter]
  cases (List.range ns.length).find? (badAt cs ns) with
  | some i => rfl
  | none =>
    show Option.or none _ = (if _ then _ else _)
    split <;> rfl
/-! ### runs -/
def runAt (fl : List Bool) (i : Nat) : Bool := fl.getD i false && !(decide (0 < i) && fl.getD (i - 1) false)
def runs (fl : List Bool) : Nat := ((List.range fl.length).filter (runAt fl)).length
theorem runs_le (fl : List Bool) : runs fl ≤ fl.length := by
  unfold runs
  have := List.length_filter_le (runAt fl) (List.range fl.length)
  rw [List.length_range] at this
  exact this
/-! ### the picture -/
theorem mul_len (n : Int) : (Txt.mul (" " : Str) n).length = n.toNat := by
  unfold Txt.mul
  have h1 : ((" " : Str).length == 0) = false := by decide
  split
  · rename_i h
    show 0 = n.toNat
    omega
  · rename_i h
    split
    · rename_i h'
      rw [h1, Bool.or_false, beq_iff_eq] at h'
      subst h'
      rfl
    · have e : ∀ (m : Nat) (acc : Array Nat), ((List.replicate m (" " : Str).cps).foldl (· ++ ·) acc).size = acc.size + m := by
        intro m
        induction m with
        | zero => intro acc; rfl
        | succ m ih =>
          intro acc
          rw [List.replicate_succ, List.foldl_cons, ih, Array.size_append]
          have : (" " : Str).cps.size = 1 := by decide
          rw [this]; omega
      show ((List.replicate n.toNat (" " : Str).cps).foldl (· ++ ·) #[]).size = n.toNat
      rw [e]
      show 0 + n.toNat = _
      omega
theorem mul_cps (n : Int) : (Txt.mul (" " : Str) n).cps = Array.replicate n.toNat 32 := by
  unfold Txt.mul
  have h1 : ((" " : Str).length == 0) = false := by decide
  split
  · rename_i h
    have : n.toNat = 0 := by omega
    rw [this]
    rfl
  · rename_i h
    split
    · rename_i h'
      rw [h1, Bool.or_false, beq_iff_eq] at h'
      subst h'
      decide
    · have e : ∀ (m : Nat) (acc : Array Nat), ((List.replicate m (" " : Str).cps).foldl (· ++ ·) acc) = acc ++ Array.replicate m 32 := by
        intro m
        induction m with
        | zero => intro acc; simp
        | succ m ih =>
          intro acc
          rw [List.replicate_succ, List.foldl_cons, ih]
          have : (" " : Str).cps = #[32] := by decide
          rw [this, Array.append_assoc]
          congr 1
          apply Array.toList_inj.mp
          simp [List.replicate_succ]
      show ((List.replicate n.toNat (" " : Str).cps).foldl (· ++ ·) #[]) = _
      rw [e]
      simp
theorem str_ext {a b : Str} (h : a.cps = b.cps) : a = b := by cases a; cases b; exact congrArg Str.mk h
theorem append_cps (a b : Str) : (a ++ b).cps = a.cps ++ b.cps := rfl
theorem ljust_eq (x : Str) (W : Int) : Txt.ljust x W = x ++ Txt.mul " " (W - x.length) := by
  apply str_ext
  rw [append_cps, mul_cps]
  unfold Txt.ljust
  split
  · rename_i h
    have : (W - (x.length : Int)).toNat = 0 := by omega
    rw [this]; simp
  · rename_i h
    have : W.toNat - x.length = (W - (x.length : Int)).toNat := by omega
    rw [this]
    show Array.replicate 0 32 ++ x.cps ++ Array.replicate _ 32 = _
    simp
theorem ljust_len (x : Str) (W : Int) : (Txt.ljust x W).length = x.length + (W - x.length).toNat := by
  rw [ljust_eq, Str.length_append, mul_len]
def fill (ws : List Str) (W : Int) : Str := Txt.join " " (ws.map fun x => Txt.ljust x W)
def marks (order row : List Str) : List Str := order.map fun x => if x ∈ row then ("x" : Str) else "."
def flags (order row : List Str) : List Bool := order.map fun x => decide (x ∈ row)
def num4 (n : Nat) : Str := Txt.rjust (Str.ofString (toString (n : Int))) 4
def line (order : List Str) (W : Int) (row : List Str) : Str := fill (marks order row) W ++ num4 (runs (flags order row))
def pic (order : List Str) (rows : List (List Str)) (W : Int) : Str := Txt.join "\n" (fill order W :: rows.map (line order W))
theorem num_small : ∀ n : Fin 13, (Str.ofString (toString ((n.val : Nat) : Int))).length ≤ 4 := by decide +kernel
theorem num4_len {n : Nat} (h : n ≤ 12) : (num4 n).length = 4 := by
  have hl : (Str.ofString (toString (n : Int))).length ≤ 4 := num_small ⟨n, by omega⟩
  unfold num4 Txt.rjust
  generalize Str.ofString (toString (n : Int)) = x at hl ⊢
  split
  · rename_i h4; omega
  · show (Array.replicate _ 32 ++ x.cps ++ Array.replicate 0 32).size = 4
    simp
    show (4 : Int).toNat - x.length + x.length = 4
    omega
theorem cut4 {s : Str} (h : s.length ≤ 4) : cutS (("    " : Str) ++ s) (some (-4)) none = Txt.rjust s 4 := by
  apply str_ext
  unfold cutS Txt.rjust
  have hl : (("    " : Str) ++ s).length = 4 + s.length := by rw [Str.length_append]; rfl
  have h1 : HT.sIx (("    " : Str) ++ s).length 0 (some (-4)) = s.length := by
    rw [hl]
    show (if (-4 : Int) < 0 then ((-4 : Int) + ((4 + s.length : Nat) : Int)).toNat else min (-4 : Int).toNat (4 + s.length)) = s.length
    rw [if_pos (by decide)]; omega
  rw [h1, HT.sIx_none, hl]
  have e4 : (("    " : Str)).cps.toList = List.replicate 4 32 := by decide
  apply Array.toList_inj.mp
  rw [append_cps, Array.toList_append, e4]
  have h5 : 4 + s.length - s.length = 4 := by omega
  rw [h5]
  have hs : s.cps.toList.length = s.length := by simp [Str.length]
  have e6 : (List.replicate 4 32 ++ s.cps.toList).drop s.length = List.replicate (4 - s.length) 32 ++ s.cps.toList := by
    rw [List.drop_append_of_le_length (by simp; exact h), List.drop_replicate]
  rw [e6, List.take_of_length_le (by rw [List.length_append, List.length_replicate, hs]; omega)]
  split
  · rename_i h4
    have : 4 - s.length = 0 := by omega
    rw [this]; rfl
  · show _ = (Array.replicate ((4 : Int).toNat - s.length) 32 ++ s.cps ++ Array.replicate 0 32).toList
    simp
/-! ### lengths -/
theorem sum_le {ys : List Nat} {B : Nat} (h : ∀ y ∈ ys, y ≤ B) : ys.sum ≤ ys.length * B := by
  induction ys with
  | nil => simp
  | cons y r ih =>
    have h1 := h y List.mem_cons_self
    have h2 := ih fun x hx => h x (List.mem_cons_of_mem _ hx)
    rw [List.sum_cons, List.length_cons, Nat.succ_mul]
    omega
theorem join_len (a : Str) : ∀ ys : List Str, (Txt.join a ys).length ≤ (ys.map (·.length)).sum + ys.length * a.length
  | [] => by
    show (Txt.join a []).length ≤ 0 + 0 * a.length
    have : (Txt.join a []).length = 0 := rfl
    omega
  | [x] => by
    have : Txt.join a [x] = x := by rw [TL.join_eq]; rfl
    rw [this]
    simp
  | x :: y :: r => by
    have e : Txt.join a (x :: y :: r) = x ++ a ++ Txt.join a (y :: r) := by rw [TL.join_eq, TL.join_eq]; rfl
    have ih := join_len a (y :: r)
    rw [e, Str.length_append, Str.length_append, List.map_cons, List.sum_cons, List.length_cons, Nat.succ_mul]
    omega
theorem fits_join {a : Str} {ys : List Str} {B n : Nat} (h : ∀ y ∈ ys, y.length ≤ B) (hn : ys.length ≤ n) (hs : n * (B + a.length) ≤ 16777216) : (ys.map (·.length)).sum + ys.length * a.length ≤ 16777216 ∧ (Txt.join a ys).length ≤ n * (B + a.length) := by
  have h1 : (ys.map (·.length)).sum ≤ (ys.map (·.length)).length * B := sum_le fun y hy => by
    obtain ⟨z, hz, rfl⟩ := List.mem_map.mp hy
    exact h z hz
  rw [List.length_map] at h1
  have h2 := join_len a ys
  have h3 : ys.length * (B + a.length) ≤ n * (B + a.length) := Nat.mul_le_mul_right _ hn
  rw [Nat.mul_add] at h3
  omega
end My
set_option maxRecDepth 100000
set_option maxHeartbeats 4000000
namespace My
open PySem L2
/-! ### names, in general -/
def okName (z : Str) : Bool := decide (1 ≤ z.length) && (decide (z.length ≤ 8) && z.cps.toList.all fun c => decide (97 ≤ c ∧ c ≤ 122))
theorem okName_iff {z : Str} : okName z = true ↔ Good z := by
  unfold okName
  rw [Bool.and_eq_true, Bool.and_eq_true, decide_eq_true_iff, decide_eq_true_iff, List.all_eq_true]
  exact ⟨fun ⟨a, b, c⟩ => ⟨a, b, fun x hx => of_decide_eq_true (c x hx)⟩, fun h => ⟨h.pos, h.le, fun x hx => decide_eq_true (h.let_ x hx)⟩⟩
def badName (ns : List Str) (i : Nat) : Bool := match ns[i]? with | some x => !okName x || decide (x ∈ ns.take i) | none => false
def firstBad (ns : List Str) : Option Nat := (List.range ns.length).find? (badName ns)
theorem firstBad_some {ns : List Str} {i : Nat} (hi : i < ns.length) (h1 : badName ns i = true) (h2 : ∀ j, j < i → badName ns j = false) : firstBad ns = some i := by
  unfold firstBad
  rw [List.find?_range_eq_some]
  exact ⟨h1, List.mem_range.mpr hi, fun j hj => by rw [h2 j hj]; rfl⟩
theorem firstBad_none {ns : List Str} (h2 : ∀ j, j < ns.length → badName ns j = false) : firstBad ns = none := by
  unfold firstBad
  rw [List.find?_eq_none]
  intro j hj
  rw [h2 j (List.mem_range.mp hj)]
  exact Bool.false_ne_true
theorem firstBad_none_iff {ns : List Str} : firstBad ns = none ↔ (∀ x ∈ ns, Good x) ∧ ns.Nodup := by
  unfold firstBad
  rw [List.find?_eq_none]
  constructor
  · intro h
    have hb : ∀ i (hi : i < ns.length), Good ns[i] ∧ ns[i] ∉ ns.take i := fun i hi => by
      have := h i (List.mem_range.mpr hi)
      unfold badName at this
      rw [List.getElem?_eq_getElem hi] at this
      simp at this
      exact ⟨okName_iff.mp this.1, this.2⟩
    refine ⟨fun x hx => ?_, ?_⟩
    · obtain ⟨i, hi, rfl⟩ := List.getElem_of_mem hx
      exact (hb i hi).1
    · rw [List.nodup_iff_pairwise_ne, List.pairwise_iff_getElem]
      intro i j hi hj hij e
      refine (hb j hj).2 ?_
      rw [← e]
      exact List.mem_take_iff_getElem.mpr ⟨i, by omega, rfl⟩
  · rintro ⟨h1, h2⟩ i hi
    have hi := List.mem_range.mp hi
    unfold badName
    rw [List.getElem?_eq_getElem hi]
    have a := okName_iff.mpr (h1 _ (List.getElem_mem hi))
    have b : ns[i] ∉ ns.take i := fun hm => by
      obtain ⟨j, hj, e⟩ := List.mem_take_iff_getElem.mp hm
      rw [List.nodup_iff_pairwise_ne, List.pairwise_iff_getElem] at h2
      exact h2 j i (by omega) hi (by omega) e
    simp [a, b]
end My
set_option maxRecDepth 100000
set_option maxHeartbeats 4000000
namespace My
open PySem L2
/-- where the defs and classes stand -/
structure Ad where
  C_Table : Addr
  C_RowsError : Addr
  C_Unknown : Addr
  C_Impossible : Addr
  C_BadStep : Addr
  a_BadStep_init : Addr
  d_BadStep_init : FuncData
  a_is_name : Addr
  d_is_name : FuncData
  a_first_bad_name : Addr
  d_first_bad_name : FuncData
  a_first_stray : Addr
  d_first_stray : FuncData
  a_numbers_in : Addr
  d_numbers_in : FuncData
  a_names_in : Addr
  d_names_in : FuncData
  a_mask_of : Addr
  d_mask_of : FuncData
  a_check_columns : Addr
  d_check_columns : FuncData
  a_check_rows : Addr
  d_check_rows : FuncData
  a_Table_in_order : Addr
  d_Table_in_order : FuncData
  a_Table_init : Addr
  d_Table_init : FuncData
  a_Table_getitem : Addr
  d_Table_getitem : FuncData
  a_Table_len : Addr
  d_Table_len : FuncData
  a_follow : Addr
  d_follow : FuncData
  a_step_mask : Addr
  d_step_mask : FuncData
  a_combined : Addr
  d_combined : FuncData
  a_law_cell : Addr
  d_law_cell : FuncData
  a_law_pool : Addr
  d_law_pool : FuncData
  a_law_size : Addr
  d_law_size : FuncData
  a_law_names : Addr
  d_law_names : FuncData
  a_law_order : Addr
  d_law_order : FuncData
  a_law_row : Addr
  d_law_row : FuncData
  a_law_rows : Addr
  d_law_rows : FuncData
  a_law_sorted : Addr
  d_law_sorted : FuncData
  a_law_is_number : Addr
  d_law_is_number : FuncData
  a_law_step : Addr
  d_law_step : FuncData
  a_law_drawn : Addr
  d_law_drawn : FuncData
  a_law_instead : Addr
  d_law_instead : FuncData
  a_law_pair : Addr
  d_law_pair : FuncData
  a_law_bad : Addr
  d_law_bad : FuncData
  a_law_same : Addr
  d_law_same : FuncData
  a_law_refusal : Addr
  d_law_refusal : FuncData
  a_law : Addr
  d_law : FuncData
  e_Table_init : Addr
/-- what the top has written -/
structure Txt (P : Program) (K : PySem.W.Frag) (mg : Str → Option Value) (A : Ad) : Prop where
  mg_Table : mg "Table" = some (.ref A.C_Table)
  cl_Table : Cls K A.C_Table
  sf_Table : PySem.W.selfFirst K A.C_Table = true
  mk_Table : Mk K A.C_Table A.a_Table_init
  c1_Table : PySem.W.findIn K (.ref A.C_Table) "__class__" = some (some (.builtin "object.__class__"))
  c3_Table : PySem.W.mroIn K A.C_Table (.type "object") = some true
  n_Table_columns : NoAttr K A.C_Table "columns"
  n_Table_rows : NoAttr K A.C_Table "rows"
  c2 : PySem.W.specialIn K (.builtin "object.__class__") "__get__" = some (some (.builtin "getset_descriptor.__get__"))
  c4 : PySem.W.takesIn K (.builtin "object.__class__") = some true
  mg_RowsError : mg "RowsError" = some (.ref A.C_RowsError)
  tp_RowsError : PySem.W.typeIn K (.ref A.C_RowsError) = some (.type "type")
  ic_RowsError : PySem.W.isClsIn K A.C_RowsError = true
  mg_Unknown : mg "Unknown" = some (.ref A.C_Unknown)
  tp_Unknown : PySem.W.typeIn K (.ref A.C_Unknown) = some (.type "type")
  ic_Unknown : PySem.W.isClsIn K A.C_Unknown = true
  mg_Impossible : mg "Impossible" = some (.ref A.C_Impossible)
  tp_Impossible : PySem.W.typeIn K (.ref A.C_Impossible) = some (.type "type")
  ic_Impossible : PySem.W.isClsIn K A.C_Impossible = true
  mg_BadStep : mg "BadStep" = some (.ref A.C_BadStep)
  tp_BadStep : PySem.W.typeIn K (.ref A.C_BadStep) = some (.type "type")
  ic_BadStep : PySem.W.isClsIn K A.C_BadStep = true
  SC_BadStep : SupCls P K mg A.C_BadStep
  SF_BadStep : SupFn P K s_BadStep_init "BadStep.__init__" A.C_BadStep A.a_BadStep_init A.d_BadStep_init
  ii_BadStep : PySem.W.findIn K (.ref A.C_BadStep) "__init__" = some (some (.ref A.a_BadStep_init))
  ti_BadStep : PySem.W.typeIn K (.ref A.a_BadStep_init) = some (.type "function")
  b_BadStep_init : Binds K A.d_BadStep_init ["self", "index"] []
  xn_BadStep_index : PySem.W.findIn K (.ref A.C_BadStep) "index" = some none
  xf_BadStep : XfC K A.C_BadStep
  ec_BadStep : ExcC K A.C_BadStep
  k_BadStep : PySem.W.keepIn K (.ref A.C_BadStep) = true
  bp_BadStep : PySem.W.subIn K (.ref A.C_BadStep) (.type "BaseException") = some true
  sv_BadStep : PySem.W.subIn K (.ref A.C_BadStep) (.type "ValueError") = some true
  ss_BadStep : PySem.W.subIn K (.ref A.C_BadStep) (.ref A.C_BadStep) = some true
  su_BadStep_RowsError : PySem.W.subIn K (.ref A.C_BadStep) (.ref A.C_RowsError) = some true
  su_BadStep_Unknown : PySem.W.subIn K (.ref A.C_BadStep) (.ref A.C_Unknown) = some false
  su_BadStep_Impossible : PySem.W.subIn K (.ref A.C_BadStep) (.ref A.C_Impossible) = some false
  e1_BadStep : PySem.W.findIn K (.ref A.C_BadStep) "__getattribute__" = some (some (.builtin "BaseException.__getattribute__"))
  e2_BadStep : PySem.W.findIn K (.ref A.C_BadStep) "__getattr__" = some none
  e3_BadStep : PySem.W.hasDictIn K A.C_BadStep = true
  e4_BadStep : PySem.W.findIn K (.ref A.C_BadStep) "__class__" = some (some (.builtin "object.__class__"))
  e5_BadStep : PySem.W.mroIn K A.C_BadStep (.type "object") = some true
  mg_LONGEST_NAME : ∃ t : Tok, mg "LONGEST_NAME" = some (.int 8 t)
  cr_Table : ClX.CRead K A.C_Table (.type "type")
  cv_Table_MOST_COLUMNS : ∃ u, ClX.CVal K A.C_Table (.type "type") "MOST_COLUMNS" (.int 12) u
  cv_Table_MOST_ROWS : ∃ u, ClX.CVal K A.C_Table (.type "type") "MOST_ROWS" (.int 48) u
  n_abs : mg "abs" = none
  n_int : mg "int" = none
  n_isinstance : mg "isinstance" = none
  n_range : mg "range" = none
  n_len : mg "len" = none
  n_str : mg "str" = none
  n_tuple : mg "tuple" = none
  n_list : mg "list" = none
  n_ValueError : mg "ValueError" = none
  n_all : mg "all" = none
  n_max : mg "max" = none
  n_min : mg "min" = none
  n_enumerate : mg "enumerate" = none
  n_bool : mg "bool" = none
  n_sum : mg "sum" = none
  F_is_name : Fun K "is_name" "is_name" s_is_name A.a_is_name A.d_is_name
  b_is_name : Binds K A.d_is_name ["text"] []
  mg_is_name : mg "is_name" = some (.ref A.a_is_name)
  F_first_bad_name : Fun K "first_bad_name" "first_bad_name" s_first_bad_name A.a_first_bad_name A.d_first_bad_name
  b_first_bad_name : Binds K A.d_first_bad_name ["names"] []
  mg_first_bad_name : mg "first_bad_name" = some (.ref A.a_first_bad_name)
  F_first_stray : Fun K "first_stray" "first_stray" s_first_stray A.a_first_stray A.d_first_stray
  b_first_stray : Binds K A.d_first_stray ["columns", "names"] []
  mg_first_stray : mg "first_stray" = some (.ref A.a_first_stray)
  F_numbers_in : Fun K "numbers_in" "numbers_in" s_numbers_in A.a_numbers_in A.d_numbers_in
  b_numbers_in : Binds K A.d_numbers_in ["mask"] []
  mg_numbers_in : mg "numbers_in" = some (.ref A.a_numbers_in)
  F_names_in : Fun K "names_in" "names_in" s_names_in A.a_names_in A.d_names_in
  b_names_in : Binds K A.d_names_in ["mask", "columns"] []
  mg_names_in : mg "names_in" = some (.ref A.a_names_in)
  F_mask_of : Fun K "mask_of" "mask_of" s_mask_of A.a_mask_of A.d_mask_of
  b_mask_of : Binds K A.d_mask_of ["names", "columns"] []
  mg_mask_of : mg "mask_of" = some (.ref A.a_mask_of)
  F_check_columns : Fun K "check_columns" "check_columns" s_check_columns A.a_check_columns A.d_check_columns
  b_check_columns : Binds K A.d_check_columns ["columns"] []
  mg_check_columns : mg "check_columns" = some (.ref A.a_check_columns)
  F_check_rows : Fun K "_check_rows" "_check_rows" s_check_rows A.a_check_rows A.d_check_rows
  b_check_rows : Binds K A.d_check_rows ["columns", "rows"] []
  mg_check_rows : mg "_check_rows" = some (.ref A.a_check_rows)
  F_Table_in_order : Fun K "_in_order" "Table._in_order" s_Table_in_order A.a_Table_in_order A.d_Table_in_order
  b_Table_in_order : Binds K A.d_Table_in_order ["self", "names"] []
  m_Table_in_order : Meth K A.C_Table "_in_order" A.a_Table_in_order
  F_Table_init : FunD K "__init__" "Table.__init__" (defArgs s_Table_init) (defBody s_Table_init) (defScope s_Table_init) [.ref A.e_Table_init] [] A.a_Table_init A.d_Table_init
  m_Table_init : Meth K A.C_Table "__init__" A.a_Table_init
  F_Table_getitem : Fun K "__getitem__" "Table.__getitem__" s_Table_getitem A.a_Table_getitem A.d_Table_getitem
  b_Table_getitem : Binds K A.d_Table_getitem ["self", "at"] []
  m_Table_getitem : Meth K A.C_Table "__getitem__" A.a_Table_getitem
  F_Table_len : Fun K "__len__" "Table.__len__" s_Table_len A.a_Table_len A.d_Table_len
  b_Table_len : Binds K A.d_Table_len ["self"] []
  m_Table_len : Meth K A.C_Table "__len__" A.a_Table_len
  F_follow : Fun K "follow" "follow" s_follow A.a_follow A.d_follow
  b_follow : Binds K A.d_follow ["table", "steps"] []
  mg_follow : mg "follow" = some (.ref A.a_follow)
  F_step_mask : Fun K "_step_mask" "_step_mask" s_step_mask A.a_step_mask A.d_step_mask
  b_step_mask : Binds K A.d_step_mask ["table", "step", "masks"] []
  mg_step_mask : mg "_step_mask" = some (.ref A.a_step_mask)
  F_combined : Fun K "_combined" "_combined" s_combined A.a_combined A.d_combined
  b_combined : Binds K A.d_combined ["word", "one", "other"] []
  mg_combined : mg "_combined" = some (.ref A.a_combined)
  F_law_cell : Fun K "_law_cell" "_law_cell" s_law_cell A.a_law_cell A.d_law_cell
  b_law_cell : Binds K A.d_law_cell ["script", "k"] []
  mg_law_cell : mg "_law_cell" = some (.ref A.a_law_cell)
  F_law_pool : Fun K "_law_pool" "_law_pool" s_law_pool A.a_law_pool A.d_law_pool
  b_law_pool : Binds K A.d_law_pool ["script", "k", "count"] []
  mg_law_pool : mg "_law_pool" = some (.ref A.a_law_pool)
  F_law_size : Fun K "_law_size" "_law_size" s_law_size A.a_law_size A.d_law_size
  b_law_size : Binds K A.d_law_size ["draw", "most"] []
  mg_law_size : mg "_law_size" = some (.ref A.a_law_size)
  F_law_names : Fun K "_law_names" "_law_names" s_law_names A.a_law_names A.d_law_names
  b_law_names : Binds K A.d_law_names ["count", "seed"] []
  mg_law_names : mg "_law_names" = some (.ref A.a_law_names)
  F_law_order : Fun K "_law_order" "_law_order" s_law_order A.a_law_order A.d_law_order
  b_law_order : Binds K A.d_law_order ["names", "pool", "start"] []
  mg_law_order : mg "_law_order" = some (.ref A.a_law_order)
  F_law_row : Fun K "_law_row" "_law_row" s_law_row A.a_law_row A.d_law_row
  b_law_row : Binds K A.d_law_row ["names", "hidden", "draw", "free"] []
  mg_law_row : mg "_law_row" = some (.ref A.a_law_row)
  F_law_rows : Fun K "_law_rows" "_law_rows" s_law_rows A.a_law_rows A.d_law_rows
  b_law_rows : Binds K A.d_law_rows ["names", "hidden", "pool", "start", "count", "mode"] []
  mg_law_rows : mg "_law_rows" = some (.ref A.a_law_rows)
  F_law_sorted : Fun K "_law_sorted" "_law_sorted" s_law_sorted A.a_law_sorted A.d_law_sorted
  b_law_sorted : Binds K A.d_law_sorted ["names", "row"] []
  mg_law_sorted : mg "_law_sorted" = some (.ref A.a_law_sorted)
  F_law_is_number : Fun K "_law_is_number" "_law_is_number" s_law_is_number A.a_law_is_number A.d_law_is_number
  b_law_is_number : Binds K A.d_law_is_number ["value", "least", "most"] []
  mg_law_is_number : mg "_law_is_number" = some (.ref A.a_law_is_number)
  F_law_step : Fun K "_law_step" "_law_step" s_law_step A.a_law_step A.d_law_step
  b_law_step : Binds K A.d_law_step ["step", "sets", "names", "rows"] []
  mg_law_step : mg "_law_step" = some (.ref A.a_law_step)
  F_law_drawn : Fun K "_law_drawn" "_law_drawn" s_law_drawn A.a_law_drawn A.d_law_drawn
  b_law_drawn : Binds K A.d_law_drawn ["draw", "k", "names", "rows"] []
  mg_law_drawn : mg "_law_drawn" = some (.ref A.a_law_drawn)
  F_law_instead : Fun K "_law_instead" "_law_instead" s_law_instead A.a_law_instead A.d_law_instead
  b_law_instead : Binds K A.d_law_instead ["word", "draw", "sets", "names", "rows"] []
  mg_law_instead : mg "_law_instead" = some (.ref A.a_law_instead)
  F_law_pair : Fun K "_law_pair" "_law_pair" s_law_pair A.a_law_pair A.d_law_pair
  b_law_pair : Binds K A.d_law_pair ["sets", "nested"] []
  mg_law_pair : mg "_law_pair" = some (.ref A.a_law_pair)
  F_law_bad : Fun K "_law_bad" "_law_bad" s_law_bad A.a_law_bad A.d_law_bad
  b_law_bad : Binds K A.d_law_bad ["draw", "sets", "rows"] []
  mg_law_bad : mg "_law_bad" = some (.ref A.a_law_bad)
  F_law_same : Fun K "_law_same" "_law_same" s_law_same A.a_law_same A.d_law_same
  b_law_same : Binds K A.d_law_same ["found", "sets"] []
  mg_law_same : mg "_law_same" = some (.ref A.a_law_same)
  F_law_refusal : Fun K "_law_refusal" "_law_refusal" s_law_refusal A.a_law_refusal A.d_law_refusal
  b_law_refusal : Binds K A.d_law_refusal ["table", "steps"] []
  mg_law_refusal : mg "_law_refusal" = some (.ref A.a_law_refusal)
  F_law : Fun K "law" "law" s_law A.a_law A.d_law
  b_law : Binds K A.d_law ["script"] []
  mg_law : mg "law" = some (.ref A.a_law)
/-- // by any divisor but 0 below 2 ^ 9000 -/
def CDivX (_ j : Int) : Prop := j ≠ 0 ∧ j.natAbs < 2 ^ 9000
theorem op_fdivX {X : Cx} : OpR X (binaryOp .FloorDiv) (rI CDivX fun i j => .int (i.fdiv j)) := opI fun i j _ _ _ _ _ hc q =>
  PyProof.Rows.floordiv_int hc.1 q (.inl (PyProof.noPylong_of_log2 (PySem.Flt.log2_lt_of (by decide) hc.2)))
theorem itN {c A B : Prop} [Decidable c] (hc : ¬ c) (h : B) : if decide c = true then A else B := by
  rw [decide_eq_false hc]; exact iteF h
theorem itY {c A B : Prop} [Decidable c] (hc : c) (h : A) : if decide c = true then A else B := by
  rw [decide_eq_true hc]; exact iteT h
theorem ifT {b : Bool} {A B : Prop} (hb : b = true) (h : A) : if b = true then A else B := by rw [if_pos hb]; exact h
theorem ifF {b : Bool} {A B : Prop} (hb : b = false) (h : B) : if b = true then A else B := by rw [if_neg (by rw [hb]; decide)]; exact h
theorem same_new {H : Hp} {l : Addr} {o : HO} (h : H l = none) : Same H (upd H l o) := fun b u e => by rw [upd_ne (ne_of_none e h)]; exact e
theorem _root_.L2.Same.tup {K : PySem.W.Frag} {H H' : Hp} {a : Addr} {xs : List V} (e : Same H H') (h : SqT K H a xs) : SqT K H' a xs := by
  rcases h with (r | ⟨o, r⟩) | z
  · exact .inl (.inl (e _ _ r))
  · exact .inl (.inr ⟨o, e _ _ r⟩)
  · exact .inr z
/-! ### a comprehension's list -/
/-- the heap H1 has grown, at D stands fm i -/
def PvS (H1 : Hp) (D : Addr) (fm : Nat → List V) (i : Nat) (H : Hp) : Prop := Same H1 H ∧ H D = some (.lst (fm i))
theorem pv0 {H1 : Hp} {D : Addr} {fm : Nat → List V} (hD : H1 D = none) (h : fm 0 = []) : PvS H1 D fm 0 (upd H1 D (.lst [])) := ⟨same_new hD, by rw [h]; exact upd_same⟩
theorem PvS.more {H1 H H' : Hp} {D : Addr} {fm : Nat → List V} {i : Nat} (p : PvS H1 D fm i H) (s : Same H H') : PvS H1 D fm i H' := ⟨p.1.trans s, s _ _ p.2⟩
theorem PvS.push {H1 H : Hp} {D : Addr} {fm : Nat → List V} {i : Nat} {y : V} (p : PvS H1 D fm i H) (hD : H1 D = none) (h : fm (i + 1) = fm i ++ [y]) (hl : (fm i).length ≤ 1000000) :
    ∃ acc, H D = some (.lst acc) ∧ acc.length < sizeLine ∧ PvS H1 D fm (i + 1) (upd H D (.lst (acc ++ [y]))) := by
  refine ⟨fm i, p.2, Nat.lt_of_le_of_lt hl (by decide), fun b o e => ?_, ?_⟩
  · rw [upd_ne (ne_of_none e hD)]; exact p.1 _ _ e
  · rw [h]; exact upd_same
theorem PvS.skip {H1 H : Hp} {D : Addr} {fm : Nat → List V} {i : Nat} (p : PvS H1 D fm i H) (h : fm (i + 1) = fm i) : PvS H1 D fm (i + 1) H := ⟨p.1, by rw [h]; exact p.2⟩
theorem small_int {n : Nat} (h : n ≤ 1000000) : n < sizeLine := Nat.lt_of_le_of_lt h (by decide)
theorem take_succ {α : Type} {xs : List α} {i : Nat} {x : α} (h : xs[i]? = some x) : xs.take (i + 1) = xs.take i ++ [x] := by
  rw [List.take_succ, h]; rfl
section
variable {P : Program} {w : World} {K : PySem.W.Frag} {mg : Str → Option Value} {base : Heap} {A : Ad}
theorem Txt.bi (T : Txt P K mg A) : Binds K A.d_Table_init ["self", "columns", "rows"] [] := by
  obtain ⟨ds, hv, hb⟩ := T.F_Table_init.binds1 (ps := ["self", "columns", "rows"]) 3 1 (by simp) rfl (fun T kV dc pm an cd ct us its hl hi => by
    match us, hl, its, hi with
    | [_, _, _], _, [_], _ => exact ⟨_, rfl, rfl⟩)
  cases hv
  exact hb
theorem ls1 : Str.length ("step " : Str) = 5 := by decide
theorem ok_BadStep (T : Txt P K mg A) : FnOk P w K mg base CX0 1 A.a_BadStep_init A.d_BadStep_init ["self", "index"] (spX1 A.C_BadStep "index" smallI) := by
  refine sup_ok T.SF_BadStep ss_BadStep_init T.SC_BadStep rfl rfl rfl (fun _ => rfl) (fun _ => rfl) (fun _ => rfl) (fun vs H Q E h => ?_) (fun cda cc A' outer s H vs Q E hr h => ?_)
  · obtain ⟨a, y, rfl, _⟩ := h
    rfl
  · obtain ⟨a, y, rfl, ⟨i, rfl, hi⟩, ha, k⟩ := h
    have l1 := PyProof.Rows.int_text_len_1921 (small_log hi)
    refine ⟨a, _, _, rfl, ha, (pe_joined (PJ.cons pe_str (PJ.cons (pe_fmt (pv 1)) (PJ.cons pe_str PJ.nil)))), (pss_one (ps_ost (pv 0) (pv 1))), ?_⟩
    have l2 : Str.length (" is not allowed" : Str) = 15 := by decide
    refine ⟨_, rfl, by rw [Str.empty_append, ls1]; decide, _, rfl, .inr ⟨i, rfl, small_log hi, _, rfl, ?_, _, rfl, ?_, (by decide : 1 ≤ 1000), ha, _, rfl, _, rfl, a, _, rfl, T.SC_BadStep.ox, T.xn_BadStep_index, .inl ⟨ha, fun d hd hne => k d hd hne⟩⟩⟩
    · rw [Str.empty_append, Str.length_append, ls1]
      exact Nat.le_trans (Nat.add_le_add_left l1 5) (by decide)
    · rw [Str.empty_append, Str.length_append, Str.length_append, ls1, l2]
      exact Nat.le_trans (Nat.add_le_add_right (Nat.add_le_add_left l1 5) 15) (by decide)
theorem passS0 {X : Cx} : ∀ σ, PassesAt CX0 X σ ((fun _ => E0) σ) := fun _ _ _ _ _ _ _ h => h.elim
theorem fnIn_of {x qual : Str} {st : Stmt} {f : Addr} {fd : FuncData} (F : Fun K x qual st f fd) : PySem.W.fnIn K f = true := by
  obtain ⟨oc, od, kV, doc, pm, an, cdv, ct, osl, rfl, lk, hcd⟩ := F.ex
  unfold PySem.W.fnIn
  rw [lk]
/-! ### names -/
theorem not_take {ns : List Str} {i : Nat} {z : Str} (nd : ns.Nodup) (hz : ns[i]? = some z) : z ∉ ns.take i := by
  intro hm
  obtain ⟨j, hj, e⟩ := List.mem_take_iff_getElem.mp hm
  obtain ⟨hi, e2⟩ := List.getElem?_eq_some_iff.mp hz
  rw [List.nodup_iff_pairwise_ne, List.pairwise_iff_getElem] at nd
  exact nd j i (by omega) hi (by omega) (e.trans e2.symm)
def spName : Sp := fun vs H Q _ => ∃ z, vs = [.str z] ∧ z.length ≤ 16000000 ∧ ∀ H', Same H H' → Q (.bl (okName z)) H'
theorem ok_name (T : Txt P K mg A) : FnOk P w K mg base CX0 1 A.a_is_name A.d_is_name ["text"] spName := by
  refine T.F_is_name.ok sc_is_name (fun vs H Q E h => ?_) (fun cdv A' outer s H vs Q E hr h => ?_)
  · obtain ⟨z, rfl, _⟩ := h
    rfl
  · obtain ⟨z, rfl, g, k⟩ := h
    refine ⟨_, (pss_one (ps_ret (pe_and (pe_chain op_le op_le pe_int (pe_callB call_len_str (by rfl) T.n_len (by decide +kernel) (pa_cons (pv 0) pa_nil)) (pe_glob (v := .int 8) rfl T.mg_LONGEST_NAME.choose_spec ⟨_, rfl⟩)) (pe_one (pe_callB (cr_all rfl) (by rfl) T.n_all (by decide +kernel) (pa_cons (pe_lc (own := [("sign", 1)]) (g := gName 1) (tt := tYes) rfl sc_is_name.nd (pi_str (pv 0)) (blkOk_by (N := ["text", "sign"]) (sc := defScope s_is_name) (by decide +kernel)) (fun _ _ _ _ _ => (pg_name (i := 1) sc_is_name.nd rfl (Or.inl rfl))) (fun _ _ _ _ _ => pts_nil) (fun _ _ _ _ _ => (pe_chain op_le_str op_le_str pe_str (pv 1) pe_str))) pa_nil)))))), ?_⟩
    have hz : z.length ≤ sizeLine := Nat.le_trans g (by decide)
    refine ⟨_, rfl, z, rfl, hz, _, _, rfl, rfl, _, rfl, ?_⟩
    by_cases h1 : 1 ≤ z.length
    · refine itY (by omega) ⟨_, _, rfl, rfl, _, rfl, ?_⟩
      by_cases h8 : z.length ≤ 8
      · refine itY (by omega) ?_
        refine ⟨_, rfl, z, rfl, fun D hD => lc_it walk_str (PvS H D fun i => (z.cps.toList.take i).map fun c => V.bl (decide (97 ≤ c ∧ c ≤ 122))) (pv0 hD rfl) (fun _ _ _ _ => trivial) ?_ ?_⟩
        · rintro i x H30 H3 hi p ⟨rfl, c, hc, rfl⟩
          have hc' : z.cps.toList[i]? = some c := by rw [Array.getElem?_toList]; exact hc
          have push : ∀ b : Bool, b = decide (97 ≤ c ∧ c ≤ 122) → ∃ acc, H3 D = some (.lst acc) ∧ acc.length < sizeLine ∧ PvS H D (fun i => (z.cps.toList.take i).map fun c => V.bl (decide (97 ≤ c ∧ c ≤ 122))) (i + 1) (upd H3 D (.lst (acc ++ [V.bl b]))) := fun b hb => by
            refine p.push hD ?_ ?_
            · show (z.cps.toList.take (i + 1)).map _ = _
              rw [take_succ hc', List.map_append, hb]; rfl
            · show ((z.cps.toList.take i).map _).length ≤ 1000000
              rw [List.length_map, List.length_take]
              have h2 : z.cps.size = z.length := rfl
              rw [Array.length_toList]; omega
          refine ⟨rfl, ?_⟩
          refine ⟨_, rfl, _, _, rfl, rfl, _, rfl, ?_⟩
          by_cases ha : 97 ≤ c
          · refine ifT (by
              show (!decide ([c] < [97])) = true
              have : ¬ c < 97 := by omega
              simp [List.cons_lt_cons_iff] <;> omega) ⟨_, _, rfl, rfl, push _ ?_⟩
            show (!decide ([122] < [c])) = decide (97 ≤ c ∧ c ≤ 122)
            by_cases hb : c ≤ 122
            · rw [decide_eq_true (⟨ha, hb⟩ : 97 ≤ c ∧ c ≤ 122)]
              simp [List.cons_lt_cons_iff] <;> omega
            · rw [decide_eq_false (fun h : 97 ≤ c ∧ c ≤ 122 => hb h.2)]
              simp [List.cons_lt_cons_iff] <;> omega
          · refine ifF (by
              show (!decide ([c] < [97])) = false
              simp [List.cons_lt_cons_iff] <;> omega) (push _ ?_)
            rw [decide_eq_false (fun h : 97 ≤ c ∧ c ≤ 122 => ha h.1)]
            first | done | (show (!decide ([c] < [97])) = false; simp [List.cons_lt_cons_iff] <;> omega)
        · rintro H3 ⟨sm, h3⟩
          have h3 : H3 D = some (.lst ((z.cps.toList.take z.cps.size).map fun c => V.bl (decide (97 ≤ c ∧ c ≤ 122)))) := h3
          rw [List.take_of_length_le (by rw [Array.length_toList]; exact Nat.le_refl _)] at h3
          refine ⟨D, z.cps.toList.map fun c => decide (97 ≤ c ∧ c ≤ 122), rfl, SqL.of (by rw [List.map_map]; exact h3), ?_⟩
          have e : (z.cps.toList.map fun c => decide (97 ≤ c ∧ c ≤ 122)).all id = okName z := by
            unfold okName
            rw [decide_eq_true h1, decide_eq_true h8, List.all_map]; rfl
          rw [e]
          exact k H3 sm
      · refine itN (by omega) ?_
        have e : okName z = false := by unfold okName; rw [decide_eq_false h8]; simp
        rw [e] at k
        exact k H (Same.refl _)
    · refine itN (by omega) ?_
      have e : okName z = false := by unfold okName; rw [decide_eq_false h1]; rfl
      rw [e] at k
      exact ⟨_, rfl, iteF (k H (Same.refl _))⟩
def spFirstBad (K : PySem.W.Frag) : Sp := fun vs H Q _ => ∃ l ns, vs = [.ref l] ∧ SqL K H l (sv ns) ∧ (∀ z ∈ ns, z.length ≤ 16000000) ∧ ∀ H', Same H H' → Q (optV (firstBad ns)) H'
theorem ok_firstBad (T : Txt P K mg A) : FnOk P w K mg base CX0 2 A.a_first_bad_name A.d_first_bad_name ["names"] (spFirstBad K) := by
  have G_is_name := ok_name (P := P) (w := w) (base := base) T
  refine T.F_first_bad_name.ok sc_first_bad_name (fun vs H Q E h => ?_) (fun cdv A' outer s H vs Q E hr h => ?_)
  · obtain ⟨l, ns, rfl, _⟩ := h
    rfl
  · obtain ⟨l, ns, rfl, hS, g, k⟩ := h
    refine ⟨_, (pss_cons (ps_for PassesOwn.never rfl (pi_enum (by rfl) T.n_enumerate (pa_cons (pv 0) pa_nil)) (pg_tup (by rfl) (pgs_cons (pg_name (i := 1) sc_first_bad_name.nd rfl (Or.inl rfl)) (pgs_cons (pg_name (i := 2) sc_first_bad_name.nd rfl (Or.inl rfl)) pgs_nil)))
        (pss_one (ps_if (PW.pt (pw_or (pt_not (pt_val (pe_call G_is_name (hr.mono (by decide)) rfl T.mg_is_name T.F_is_name.kp T.b_is_name .nil pass0 (pa_cons (pv 2) pa_nil)))) (pw_or1 (pt_cmpR op_in_seq (pv 2) (pe_slice sl_list (pv 0) po_none (po_some (pv 1))) (by with_unfolding_all rfl))))) (pss_one (ps_ret (pv 1))) pss_nil)))
      (pss_one (ps_ret pe_non))), ?_⟩
    refine ⟨_, rfl, l, _, rfl, hS, for_it walk_enum (fun i σ H2 => Same H H2 ∧ (∀ j, j < i → badName ns j = false) ∧ ∃ u1 u2 : Option V, σ = [some (.ref l), u1, u2]) ⟨Same.refl _, fun j hj => absurd hj (Nat.not_lt_zero _), none, none, rfl⟩ (fun i σ H2 _ p => p.1.seq hS) ?_ ?_⟩
    · rintro i x σ H2 H3 hi ⟨sm, hb, u1, u2, rfl⟩ ⟨t, _, _, rfl, ht, rfl, ⟨⟩, hx⟩
      obtain ⟨z, hz, rfl⟩ := sv_get hx
      have hil : i < ns.length := by rw [len_sv] at hi; exact hi
      have bad : badName ns i = (!okName z || decide (z ∈ ns.take i)) := by unfold badName; rw [hz]
      refine ⟨t, _, rfl, SqT.of upd_same, rfl, _, _, rfl, _, _, rfl, rfl, ?_⟩
      refine ⟨_, rfl, z, rfl, g z (List.mem_of_getElem? hz), fun H4 sm4 => ⟨_, rfl, ?_⟩⟩
      have s4 : Same H H4 := sm.trans ((same_new ht).trans sm4)
      cases ok : okName z with
      | false =>
        refine ifT rfl (ifT rfl ⟨_, rfl, ?_⟩)
        have e := firstBad_some hil (by rw [bad, ok]; rfl) hb
        rw [e] at k
        exact k _ s4
      | true =>
        refine ifF rfl ⟨_, rfl, _, rfl, _, rfl, _, rfl, l, _, rfl, s4.seq hS, fun p hp => ⟨p, _, rfl, .inl (SqL.of upd_same), rfl, by rw [cut_take (by omega), sv_take]; exact flat_sv _, _, rfl, ?_⟩⟩
        rw [if_neg Bool.false_ne_true, cut_take (by omega), sv_take, inV_str]
        have s5 := s4.trans (same_new (o := .lst (cutV (sv ns) none (some ((i : Nat) : Int)))) hp)
        rw [cut_take (by omega), sv_take] at s5
        by_cases hp2 : z ∈ ns.take i
        · refine ifT (decide_eq_true hp2) ⟨_, rfl, ?_⟩
          have e := firstBad_some hil (by rw [bad, decide_eq_true hp2, Bool.or_true]) hb
          rw [e] at k
          exact k _ s5
        · refine ifF (decide_eq_false hp2) ⟨s5, fun j hj => ?_, _, _, rfl⟩
          rcases Nat.lt_succ_iff_lt_or_eq.mp hj with q | q
          · exact hb j q
          · rw [q, bad, ok, decide_eq_false hp2]; rfl
    · rintro σ H2 ⟨sm, hb, u1, u2, rfl⟩
      have e := firstBad_none (ns := ns) fun j hj => hb j (by rw [len_sv]; exact hj)
      rw [e] at k
      exact k H2 sm
def spStray (sq1 sq2 : Hp → Addr → List V → Prop) : Sp := fun vs H Q _ => ∃ c l cs ns, vs = [.ref c, .ref l] ∧ sq1 H c (sv cs) ∧ sq2 H l (sv ns) ∧ ns.length ≤ 16000000 ∧ ∀ H', Same H H' → Q (optV (stray cs ns)) H'
theorem ok_stray (T : Txt P K mg A) : FnOk P w K mg base CX0 1 A.a_first_stray A.d_first_stray ["columns", "names"] (spStray (SqL K) (SqL K)) := by
  refine T.F_first_stray.ok sc_first_stray (fun vs H Q E h => ?_) (fun cdv A' outer s H vs Q E hr h => ?_)
  · obtain ⟨c, l, cs, ns, rfl, _⟩ := h
    rfl
  · obtain ⟨c, l, cs, ns, rfl, h1, h2, hl, k⟩ := h
    refine ⟨_, (pss_cons (ps_for PassesOwn.never rfl (pi_enum (by rfl) T.n_enumerate (pa_cons (pv 1) pa_nil)) (pg_tup (by rfl) (pgs_cons (pg_name (i := 2) sc_first_stray.nd rfl (Or.inl rfl)) (pgs_cons (pg_name (i := 3) sc_first_stray.nd rfl (Or.inl rfl)) pgs_nil)))
        (pss_one (ps_if (PW.pt (pw_or (pt_cmpR op_notIn_seq (pv 3) (pv 0) (by with_unfolding_all rfl)) (pw_or1 (pt_cmpR op_in_seq (pv 3) (pe_slice sl_list (pv 1) po_none (po_some (pv 2))) (by with_unfolding_all rfl))))) (pss_one (ps_ret (pv 2))) pss_nil)))
      (pss_one (ps_ret pe_non))), ?_⟩
    refine ⟨_, rfl, l, _, rfl, h2, for_it walk_enum (fun i σ H2 => Same H H2 ∧ (∀ j, j < i → badAt cs ns j = false) ∧ ∃ u1 u2 : Option V, σ = [some (.ref c), some (.ref l), u1, u2]) ⟨Same.refl _, fun j hj => absurd hj (Nat.not_lt_zero _), none, none, rfl⟩ (fun i σ H2 _ p => p.1.seq h2) ?_ ?_⟩
    · rintro i x σ H2 H3 hi ⟨sm, hb, u1, u2, rfl⟩ ⟨t, _, _, rfl, ht, rfl, ⟨⟩, hx⟩
      obtain ⟨z, hz, rfl⟩ := sv_get hx
      have hil : i < ns.length := by rw [len_sv] at hi; exact hi
      have bad : badAt cs ns i = (!decide (z ∈ cs) || decide (z ∈ ns.take i)) := by unfold badAt; rw [hz]
      refine ⟨t, _, rfl, SqT.of upd_same, rfl, _, _, rfl, _, _, rfl, rfl, ?_⟩
      have s3 : Same H (upd H2 t (.tup [.int (i : Nat), .str z])) := sm.trans (same_new ht)
      refine ⟨_, rfl, _, rfl, c, _, rfl, .inl (s3.seq h1), rfl, flat_sv _, _, rfl, ?_⟩
      rw [if_pos (rfl : true = true), inV_str]
      by_cases hc : z ∈ cs
      · refine ifF (by rw [decide_eq_true hc]; rfl) ?_
        refine ⟨_, rfl, _, rfl, _, rfl, _, rfl, l, _, rfl, s3.seq h2, fun p hp => ⟨p, _, rfl, .inl (SqL.of upd_same), rfl, by rw [cut_take (by omega), sv_take]; exact flat_sv _, _, rfl, ?_⟩⟩
        rw [if_neg Bool.false_ne_true, cut_take (by omega), sv_take, inV_str]
        have s4 := s3.trans (same_new (o := .lst (cutV (sv ns) none (some ((i : Nat) : Int)))) hp)
        rw [cut_take (by omega), sv_take] at s4
        by_cases hp2 : z ∈ ns.take i
        · refine ifT (decide_eq_true hp2) ⟨_, rfl, ?_⟩
          have e := stray_some (cs := cs) hil (by rw [bad, decide_eq_true hp2, Bool.or_true]) hb
          rw [e] at k
          exact k _ s4
        · refine ifF (decide_eq_false hp2) ⟨s4, fun j hj => ?_, _, _, rfl⟩
          rcases Nat.lt_succ_iff_lt_or_eq.mp hj with q | q
          · exact hb j q
          · rw [q, bad, decide_eq_true hc, decide_eq_false hp2]; rfl
      · refine ifT (by rw [decide_eq_false hc]; rfl) (ifT rfl ⟨_, rfl, ?_⟩)
        have e := stray_some (cs := cs) hil (by rw [bad, decide_eq_false hc]; rfl) hb
        rw [e] at k
        exact k _ s3
    · rintro σ H2 ⟨sm, hb, u1, u2, rfl⟩
      have e := stray_none (cs := cs) (ns := ns) fun j hj => hb j (by rw [len_sv]; exact hj)
      rw [e] at k
      exact k H2 sm
end
end My
set_option maxRecDepth 100000
set_option maxHeartbeats 4000000
namespace My
open PySem L2
theorem itNe {A B : Prop} {x y : V} (h : x = y) (h2 : B) : if (!decide (x = y)) = true then A else B := by
  rw [decide_eq_true h]; exact iteF h2
theorem itNeN {A B : Prop} {x y : V} (h : x ≠ y) (h2 : A) : if (!decide (x = y)) = true then A else B := by
  rw [decide_eq_false h]; exact iteT h2
/-- a def that may raise -/
theorem funX {P : Program} {w : World} {K : PySem.W.Frag} {mg : Str → Option Value} {base : Heap} {CX : CXT} {x qual : Str} {st : Stmt} {f : Addr} {fd : FuncData} {N ps : List Str} {k : Nat} {sp : Sp} (F : Fun K x qual st f fd) (S : FnScope N ps (defScope st)) (len : ∀ vs H Q E, sp vs H Q E → vs.length = ps.length)
    (hbody : ∀ (cdv : Value) (A : Around) (outer : List Env) (s : Shared) (H : Hp) (vs : List V) (Q : VK) (E : XK), Room k (A.deeper (PyProof.Rows.envOfC qual (defScope st) s.heap.objs.size f cdv)) → sp vs H Q E →
      ∃ t, PSs (cxOf CX P w K mg base N qual (defScope st) f cdv A outer s H E) (defBody st) t ∧ t { nx := fun _ H' => Q .non H', rt := Q } (L2.start N vs) H) : FnOk P w K mg base CX (k + 1) f fd ps sp := by
  obtain ⟨oc, od, kV, doc, pm, an, cdv, ct, osl, rfl, lk, hcd⟩ := F.ex
  exact fn_of lk hcd S len fun A outer s H vs Q E hr hsp => hbody cdv A outer s H vs Q E hr hsp
theorem seq_upd {K : PySem.W.Frag} {H : Hp} {a b : Addr} {xs : List V} {u o : HO} (h : SqL K H a xs) (hb : H b = some u) (h1 : ∀ ys, u ≠ .lst ys) (h2 : ∀ c d, u ≠ .frz c d) : SqL K (upd H b o) a xs := by
  rcases h with (r | ⟨c, r⟩) | z
  · exact .inl (.inl (by rw [upd_ne (ne_of r hb (fun z => h1 _ z.symm))]; exact r))
  · exact .inl (.inr ⟨c, by rw [upd_ne (ne_of r hb (fun z => h2 _ _ z.symm))]; exact r⟩)
  · exact .inr z
/-! ### tables -/
theorem krc : ¬ (("columns" : Str) = "rows") := by decide +kernel
def fldsT (ct rt : Addr) : List (Str × V) := putF "rows" (.ref rt) (putF "columns" (.ref ct) [])
theorem fldsT_columns (ct rt : Addr) : (fldsT ct rt).lookup ("columns" : Str) = some (.ref ct) := by
  unfold fldsT; rw [lookup_putF, if_neg krc, lookup_putF, if_pos rfl]
theorem fldsT_rows (ct rt : Addr) : (fldsT ct rt).lookup ("rows" : Str) = some (.ref rt) := by
  unfold fldsT; rw [lookup_putF, if_pos rfl]
/-- at ts stand the lists (or tuples) of texts rs -/
structure Lss (f : List V → HO) (H : Hp) (ts : List Addr) (rs : List (List Str)) : Prop where
  len : ts.length = rs.length
  at_ : ∀ (i : Nat) (t : Addr) (r : List Str), ts[i]? = some t → rs[i]? = some r → H t = some (f (sv r))
theorem Lss.same {f : List V → HO} {H H' : Hp} {ts : List Addr} {rs : List (List Str)} (h : Lss f H ts rs) (e : Same H H') : Lss f H' ts rs := ⟨h.len, fun i t x a b => e _ _ (h.at_ i t x a b)⟩
theorem Lss.nil {f : List V → HO} {H : Hp} : Lss f H [] [] := ⟨rfl, fun i t x h => by simp at h⟩
theorem Lss.app {f : List V → HO} {H : Hp} {ts : List Addr} {rs : List (List Str)} {t : Addr} {r : List Str} (h : Lss f H ts rs) (ht : H t = some (f (sv r))) : Lss f H (ts ++ [t]) (rs ++ [r]) := by
  refine ⟨by rw [List.length_append, List.length_append, h.len]; rfl, fun i u y a b => ?_⟩
  rcases Nat.lt_trichotomy i ts.length with c | c | c
  · rw [List.getElem?_append_left c] at a
    rw [List.getElem?_append_left (by rw [← h.len]; exact c)] at b
    exact h.at_ i u y a b
  · rw [c, List.getElem?_append_right (Nat.le_refl _), Nat.sub_self] at a
    rw [c, h.len, List.getElem?_append_right (Nat.le_refl _), Nat.sub_self] at b
    cases a; cases b; exact ht
  · rw [List.getElem?_append_right (by omega), List.getElem?_eq_none (by simp; omega)] at a
    cases a
theorem Lss.get {f : List V → HO} {H : Hp} {ts : List Addr} {rs : List (List Str)} (h : Lss f H ts rs) {i : Nat} {t : Addr} (hi : ts[i]? = some t) : ∃ r, rs[i]? = some r ∧ H t = some (f (sv r)) := by
  have hx : i < rs.length := by rw [← h.len]; exact (List.getElem?_eq_some_iff.mp hi).1
  exact ⟨rs[i], List.getElem?_eq_getElem hx, h.at_ i _ _ hi (List.getElem?_eq_getElem hx)⟩
theorem refs_get {ts : List Addr} {i : Nat} {v : V} (h : (ts.map V.ref)[i]? = some v) : ∃ t, ts[i]? = some t ∧ v = .ref t := by
  rw [List.getElem?_map] at h
  cases e : ts[i]? with
  | none => rw [e] at h; cases h
  | some t => rw [e] at h; exact ⟨t, rfl, (Option.some.inj h).symm⟩
/-- the row in the columns' sequence -/
def canon (cs r : List Str) : List Str := cs.filter fun x => decide (x ∈ r)
theorem canon_T {l r : List Str} {z : Str} (hm : z ∈ r) : canon (l ++ [z]) r = canon l r ++ [z] := by
  unfold canon; rw [List.filter_append]; simp [hm]
theorem canon_F {l r : List Str} {z : Str} (hm : z ∉ r) : canon (l ++ [z]) r = canon l r := by
  unfold canon; rw [List.filter_append]; simp [hm]
theorem Lss.updT {H : Hp} {ts : List Addr} {rs : List (List Str)} {l : Addr} {u o : HO} (h : Lss .tup H ts rs) (hl : H l = some u) (hu : ∀ xs, u ≠ .tup xs) : Lss .tup (upd H l o) ts rs := ⟨h.len, fun i t x a b => by
  have := h.at_ i t x a b
  rw [upd_ne (ne_of this hl (fun z => hu _ z.symm))]
  exact this⟩
/-- the table with the columns cs and the rows rs stands at p -/
def Tb (C : Addr) (H : Hp) (p : Addr) (cs : List Str) (rs : List (List Str)) : Prop :=
  ∃ dx ct rt ts, H p = some (.ins C dx (fldsT ct rt)) ∧ H ct = some (.tup (sv cs)) ∧ H rt = some (.tup (ts.map V.ref)) ∧ Lss .tup H ts (rs.map (canon cs))
theorem Tb.same {C : Addr} {H H' : Hp} {p : Addr} {cs : List Str} {rs : List (List Str)} (h : Tb C H p cs rs) (e : Same H H') : Tb C H' p cs rs :=
  let ⟨dx, ct, rt, ts, h1, h2, h3, h4⟩ := h; ⟨dx, ct, rt, ts, e _ _ h1, e _ _ h2, e _ _ h3, h4.same e⟩
section
variable {P : Program} {w : World} {K : PySem.W.Frag} {mg : Str → Option Value} {base : Heap} {A : Ad}
theorem exc_same {H : Hp} {a d : Addr} {o1 o2 o3 o4 : HO} (ha : H a = none) (hd : H d = none) : Same H (upd (L2.del (upd (upd (upd H a o1) d o2) a o3) a) d o4) := fun b o e => by
  rw [upd_ne (ne_of_none e hd), L2.del_ne (ne_of_none e ha), upd_ne (ne_of_none e ha), upd_ne (ne_of_none e hd), upd_ne (ne_of_none e ha)]
  exact e
/-! ### Table(..) -/
def spCols (K : PySem.W.Frag) : Sp := fun vs H Q _ => ∃ l cs, vs = [.ref l] ∧ SqL K H l (sv cs) ∧ (∀ z ∈ cs, Good z) ∧ cs.Nodup ∧ cs.length ≤ 12 ∧ ∀ H', Same H H' → Q .non H'
theorem ok_cols (T : Txt P K mg A) : FnOk P w K mg base CX0 3 A.a_check_columns A.d_check_columns ["columns"] (spCols K) := by
  have G_first_bad_name := ok_firstBad (P := P) (w := w) (base := base) T
  refine T.F_check_columns.ok sc_check_columns (fun vs H Q E h => ?_) (fun cdv A' outer s H vs Q E hr h => ?_)
  · obtain ⟨l, cs, rfl, _⟩ := h
    rfl
  · obtain ⟨l, cs, rfl, h1, g, nd, hl, k⟩ := h
    refine ⟨_, (pss_cons (ps_if (pt_cmpR op_gt (pe_callB call_len_seq (by rfl) T.n_len (by decide +kernel) (pa_cons (pv 0) pa_nil)) (ClX.pe_cval (pe_glob (v := .ref A.C_Table) rfl T.mg_Table rfl)) (nomark _)) (pss_one ps_never) pss_nil)
      (pss_cons (ps_set (i := 1) sc_check_columns.nd rfl (Or.inl rfl) (pe_call G_first_bad_name (hr.mono (by decide)) rfl T.mg_first_bad_name T.F_first_bad_name.kp T.b_first_bad_name .nil pass0 (pa_cons (pv 0) pa_nil)))
      (pss_one (ps_if (pt_cmpR op_notN (pv 1) pe_non (nomark _)) (pss_one ps_never) pss_nil)))), ?_⟩
    obtain ⟨u, hu⟩ := T.cv_Table_MOST_COLUMNS
    refine ⟨_, rfl, l, _, rfl, .inl h1, _, _, _, _, rfl, T.cr_Table, hu, _, _, rfl, rfl, _, rfl, itN (by rw [len_sv]; omega) ?_⟩
    refine ⟨_, rfl, l, cs, rfl, h1, fun z hz => Nat.le_trans (g z hz).le (by decide), fun H2 sm => ?_⟩
    rw [firstBad_none_iff.mpr ⟨g, nd⟩]
    exact ⟨_, rfl, rfl, _, rfl, itNe rfl (k _ sm)⟩
def spChRows (K : PySem.W.Frag) : Sp := fun vs H Q _ => ∃ l r cs ts rs, vs = [.ref l, .ref r] ∧ SqL K H l (sv cs) ∧ SqL K H r (ts.map V.ref) ∧ Lss .lst H ts rs ∧ rs.length ≤ 48 ∧ (∀ x ∈ rs, stray cs x = none ∧ x.length ≤ 1000) ∧ ∀ H', Same H H' → Q .non H'
theorem ok_chRows (T : Txt P K mg A) : FnOk P w K mg base CX0 2 A.a_check_rows A.d_check_rows ["columns", "rows"] (spChRows K) := by
  have G_first_stray := ok_stray (P := P) (w := w) (base := base) T
  refine T.F_check_rows.ok sc_check_rows (fun vs H Q E h => ?_) (fun cdv A' outer s H vs Q E hr h => ?_)
  · obtain ⟨l, r, cs, ts, rs, rfl, _⟩ := h
    rfl
  · obtain ⟨l, r, cs, ts, rs, rfl, h1, h2, hs, hl, hg, k⟩ := h
    refine ⟨_, (pss_cons (ps_if (pt_cmpR op_gt (pe_callB call_len_seq (by rfl) T.n_len (by decide +kernel) (pa_cons (pv 1) pa_nil)) (ClX.pe_cval (pe_glob (v := .ref A.C_Table) rfl T.mg_Table rfl)) (nomark _)) (pss_one ps_never) pss_nil)
      (pss_one (ps_for PassesOwn.never rfl (pi_enum (by rfl) T.n_enumerate (pa_cons (pv 1) pa_nil)) (pg_tup (by rfl) (pgs_cons (pg_name (i := 2) sc_check_rows.nd rfl (Or.inl rfl)) (pgs_cons (pg_name (i := 3) sc_check_rows.nd rfl (Or.inl rfl)) pgs_nil)))
        (pss_one (ps_if (pt_cmpR op_notN (pe_call G_first_stray (hr.mono (by decide)) rfl T.mg_first_stray T.F_first_stray.kp T.b_first_stray .nil pass0 (pa_cons (pv 0) (pa_cons (pv 3) pa_nil))) pe_non (nomark _)) (pss_one ps_never) pss_nil))))), ?_⟩
    obtain ⟨u, hu⟩ := T.cv_Table_MOST_ROWS
    refine ⟨_, rfl, r, _, rfl, .inl h2, _, _, _, _, rfl, T.cr_Table, hu, _, _, rfl, rfl, _, rfl, itN (by rw [List.length_map, hs.len]; omega) ?_⟩
    refine ⟨_, rfl, r, _, rfl, h2, for_it walk_enum (fun i σ H2 => Same H H2 ∧ ∃ u1 u2 : Option V, σ = [some (.ref l), some (.ref r), u1, u2]) ⟨Same.refl _, none, none, rfl⟩ (fun i σ H2 _ p => p.1.seq h2) ?_ ?_⟩
    · rintro i x σ H2 H3 hi ⟨sm, u1, u2, rfl⟩ ⟨t, _, _, rfl, ht, rfl, ⟨⟩, hx⟩
      obtain ⟨b, hb, rfl⟩ := refs_get hx
      obtain ⟨y, hy, ho⟩ := hs.get hb
      have g := hg y (List.mem_of_getElem? hy)
      have s3 : Same H (upd H2 t (.tup [.int (i : Nat), .ref b])) := sm.trans (same_new ht)
      refine ⟨t, _, rfl, SqT.of upd_same, rfl, _, _, rfl, _, _, rfl, rfl, ?_⟩
      refine ⟨_, rfl, _, rfl, l, b, cs, y, rfl, s3.seq h1, SqL.of (s3 _ _ ho), Nat.le_trans g.2 (by decide), fun H4 sm4 => ?_⟩
      rw [g.1]
      exact ⟨rfl, _, rfl, itNe rfl ⟨s3.trans sm4, _, _, rfl⟩⟩
    · rintro σ H2 ⟨sm, u1, u2, rfl⟩
      exact k H2 sm
def spInOrder (C : Addr) (K : PySem.W.Frag) : Sp := fun vs H Q _ => ∃ p l dx ct cs r fs, vs = [.ref p, .ref l] ∧ H p = some (.ins C dx fs) ∧ fs.lookup ("columns" : Str) = some (.ref ct) ∧ H ct = some (.tup (sv cs)) ∧ SqL K H l (sv r) ∧ cs.length ≤ 1000 ∧
  ∀ t H', Same H H' → H' t = some (.tup (sv (canon cs r))) → Q (.ref t) H'
theorem ok_inOrder (T : Txt P K mg A) : FnOk P w K mg base CX0 1 A.a_Table_in_order A.d_Table_in_order ["self", "names"] (spInOrder A.C_Table K) := by
  refine T.F_Table_in_order.ok sc_Table_in_order (fun vs H Q E h => ?_) (fun cdv A' outer s H vs Q E hr h => ?_)
  · obtain ⟨p, l, dx, ct, cs, r, fs, rfl, _⟩ := h
    rfl
  · obtain ⟨p, l, dx, ct, cs, r, fs, rfl, h1, hct, hc, h2, hl, k⟩ := h
    refine ⟨_, (pss_one (ps_ret (pe_callTy call_tuple_of (by rfl) T.n_tuple (by decide +kernel) (pa_cons (pe_lc (own := [("name", 2)]) (g := gName 2) (tt := _) rfl sc_Table_in_order.nd (pi_tup (pe_fld (pv 0) rfl)) (blkOk_by (N := ["self", "names", "name"]) (sc := defScope s_Table_in_order) (by decide +kernel)) (fun _ _ _ _ _ => (pg_name (i := 2) sc_Table_in_order.nd rfl (Or.inl rfl))) (fun _ _ _ _ _ => (pts_one (pt_cmpR (show OpR _ _ (rIn K false) from op_in_seq) (pv 2) (pv 1) (by with_unfolding_all rfl)))) (fun _ _ _ _ _ => (pv 2))) pa_nil)))), ?_⟩
    have stepT : ∀ i z, cs[i]? = some z → z ∈ r → sv (canon (cs.take (i + 1)) r) = sv (canon (cs.take i) r) ++ [V.str z] := fun i z hz hm => by
      rw [take_succ hz, canon_T hm]; exact List.map_append
    have stepF : ∀ i z, cs[i]? = some z → z ∉ r → sv (canon (cs.take (i + 1)) r) = sv (canon (cs.take i) r) := fun i z hz hm => by
      rw [take_succ hz, canon_F hm]
    refine ⟨_, rfl, p, _, dx, fs, _, rfl, h1, T.cl_Table, T.n_Table_columns, hct, ct, rfl, ⟨_, SqT.of hc⟩, fun D hD => lc_it walk_tup (PvS H D fun i => sv (canon (cs.take i) r)) (pv0 hD rfl) (fun i H2 _ q => q.1.tup (SqT.of hc)) ?_ ?_⟩
    · rintro i x H3 H4 hi q ⟨rfl, hx⟩
      obtain ⟨z, hz, rfl⟩ := sv_get hx
      refine ⟨rfl, _, rfl, _, rfl, l, _, rfl, .inl (q.1.seq h2), rfl, flat_sv _, _, rfl, ?_⟩
      rw [if_neg Bool.false_ne_true, inV_str]
      have hlen : (sv (canon (cs.take i) r)).length ≤ 1000000 := by
        have := List.length_filter_le (fun x => decide (x ∈ r)) (cs.take i)
        rw [List.length_take] at this
        rw [len_sv]; unfold canon; omega
      by_cases hm : z ∈ r
      · exact ifT (decide_eq_true hm) ⟨_, rfl, q.push hD (stepT i z hz hm) hlen⟩
      · exact ifF (decide_eq_false hm) (q.skip (stepF i z hz hm))
    · rintro H3 ⟨sm, h3⟩
      have h3 : H3 D = some (.lst (sv (canon (cs.take (sv cs).length) r))) := h3
      rw [len_sv, List.take_length] at h3
      exact ⟨D, _, rfl, .inl ⟨SqL.of h3, fun t ht => k t _ (sm.trans (same_new ht)) upd_same⟩⟩
def spTable (C : Addr) (K : PySem.W.Frag) : Sp := fun vs H Q _ => ∃ p l r dx cs ts rs, vs = [.ref p, .ref l, .ref r] ∧ H p = some (.ins C dx []) ∧ SqL K H l (sv cs) ∧ SqL K H r (ts.map V.ref) ∧ Lss .lst H ts rs ∧
  (∀ z ∈ cs, Good z) ∧ cs.Nodup ∧ cs.length ≤ 12 ∧ rs.length ≤ 48 ∧ (∀ x ∈ rs, stray cs x = none ∧ x.length ≤ 1000) ∧ ∀ H', (∀ b o, b ≠ p → H b = some o → H' b = some o) → Tb C H' p cs rs → Q .non H'
theorem ok_table (T : Txt P K mg A) : FnOk P w K mg base CX0 4 A.a_Table_init A.d_Table_init ["self", "columns", "rows"] (spTable A.C_Table K) := by
  have G_check_columns := ok_cols (P := P) (w := w) (base := base) T
  have G_check_rows := ok_chRows (P := P) (w := w) (base := base) T
  have G_Table_in_order := ok_inOrder (P := P) (w := w) (base := base) T
  refine T.F_Table_init.ok sc_Table_init (fun vs H Q E h => ?_) (fun cdv A' outer s H vs Q E hr h => ?_)
  · obtain ⟨p, l, r, dx, cs, ts, rs, rfl, _⟩ := h
    rfl
  · obtain ⟨p, l, r, dx, cs, ts, rs, rfl, hp, h1, h2, hs, g, nd, hc, hrs, hst, k⟩ := h
    refine ⟨_, (pss_cons (ps_expr (pe_call G_check_columns (hr.mono (by decide)) rfl T.mg_check_columns T.F_check_columns.kp T.b_check_columns .nil pass0 (pa_cons (pv 1) pa_nil)))
      (pss_cons (ps_expr (pe_call G_check_rows (hr.mono (by decide)) rfl T.mg_check_rows T.F_check_rows.kp T.b_check_rows .nil pass0 (pa_cons (pv 1) (pa_cons (pv 2) pa_nil))))
      (pss_cons (ps_fld (pv 0) (pe_callTy call_tuple_of (by rfl) T.n_tuple (by decide +kernel) (pa_cons (pv 1) pa_nil)) rfl)
      (pss_one (ps_fld (pv 0) (pe_callTy call_tuple_of (by rfl) T.n_tuple (by decide +kernel) (pa_cons (pe_lc (own := [("row", 3)]) (g := gName 3) (tt := tYes) rfl sc_Table_init.nd (pi_list (pv 2)) (blkOk_by (N := ["self", "columns", "rows", "row"]) (sc := defScope s_Table_init) (by decide +kernel)) (fun _ _ _ _ _ => (pg_name (i := 3) sc_Table_init.nd rfl (Or.inl rfl))) (fun _ _ _ _ _ => pts_nil) (fun _ _ _ _ _ => (pe_meth (pv 0) T.cl_Table T.m_Table_in_order G_Table_in_order (hr.mono (by decide)) T.b_Table_in_order .nil pass0 (pa_cons (pv 3) pa_nil)))) pa_nil)) rfl))))), ?_⟩
    refine ⟨_, rfl, l, cs, rfl, h1, g, nd, hc, fun H1 s1 => ?_⟩
    refine ⟨_, rfl, _, rfl, l, r, cs, ts, rs, rfl, s1.seq h1, s1.seq h2, hs.same s1, hrs, hst, fun H2 s2 => ?_⟩
    have s2 := s1.trans s2
    refine ⟨_, rfl, l, _, rfl, .inl ⟨s2.seq h1, fun ct hct => ?_⟩⟩
    have hp2 : upd H2 ct (.tup (sv cs)) p = some (.ins A.C_Table dx []) := by rw [upd_ne (ne_of_none (s2 _ _ hp) hct)]; exact s2 _ _ hp
    refine ⟨_, rfl, p, _, dx, [], rfl, hp2, T.cl_Table, T.n_Table_columns, (by show 0 < 1000; decide), ?_⟩
    have npc : ct ≠ p := fun z => by rw [z] at hct; rw [s2 _ _ hp] at hct; cases hct
    generalize hX : upd (upd H2 ct _) p _ = H3
    have hp3 : H3 p = some (.ins A.C_Table dx (putF "columns" (.ref ct) [])) := by rw [← hX]; exact upd_same
    have hc3 : H3 ct = some (.tup (sv cs)) := by rw [← hX, upd_ne npc]; exact upd_same
    have sm3 : ∀ b o, b ≠ p → H b = some o → H3 b = some o := fun b o hb e => by
      rw [← hX, upd_ne hb, upd_ne (ne_of_none (s2 _ _ e) hct)]; exact s2 _ _ e
    have h23 : SqL K H3 r (ts.map V.ref) := by
      have := (s2.trans (same_new (o := .tup (sv cs)) hct)).seq h2
      rw [← hX]; exact seq_upd this hp2 (fun xs z => nomatch z) (fun o u z => nomatch z)
    have hs3 : Lss .lst H3 ts rs := ⟨hs.len, fun i t x a b => sm3 t _ (ne_of (hs.at_ i t x a b) hp (fun z => nomatch z)) (hs.at_ i t x a b)⟩
    clear hX hp2
    have hlk : (putF "columns" (.ref ct) ([] : List (Str × V))).lookup ("columns" : Str) = some (.ref ct) := by rw [lookup_putF, if_pos rfl]
    have hlm : (putF "columns" (.ref ct) ([] : List (Str × V))).lookup ("_in_order" : Str) = none := by rw [lookup_putF, if_neg (by decide +kernel)]; rfl
    refine ⟨_, rfl, r, rfl, ⟨_, h23⟩, fun D hD => lc_it walk_list (fun i H4 => Same H3 H4 ∧ ∃ us : List Addr, H4 D = some (.lst (us.map V.ref)) ∧ Lss .tup H4 us ((rs.take i).map (canon cs))) ⟨same_new hD, [], upd_same, Lss.nil⟩ (fun i H4 _ q => q.1.seq h23) ?_ ?_⟩
    · rintro i x H4 H5 hi ⟨s4, us, hd4, hl4⟩ ⟨rfl, hx⟩
      obtain ⟨b, hb, rfl⟩ := refs_get hx
      obtain ⟨y, hy, ho⟩ := (hs3.same s4).get hb
      refine ⟨rfl, _, rfl, p, dx, _, rfl, s4 _ _ hp3, hlm, _, rfl, p, b, dx, ct, cs, y, _, rfl, s4 _ _ hp3, hlk, s4 _ _ hc3, SqL.of ho, by omega, fun t H6 s6 ht => ?_⟩
      have hd6 := s6 _ _ hd4
      refine ⟨_, hd6, small_int (by rw [List.length_map, hl4.len, List.length_map, List.length_take]; omega), ?_, us ++ [t], ?_, ?_⟩
      · intro c o e
        rw [upd_ne (ne_of_none e hD)]
        exact s6 _ _ (s4 _ _ e)
      · rw [List.map_append]; exact upd_same
      · rw [take_succ hy, List.map_append]
        exact ((hl4.same s6).app ht).updT hd6 (fun xs z => nomatch z)
    · rintro H4 ⟨s4, us, hd4, hl4⟩
      rw [List.length_map, hs.len, List.take_length] at hl4
      refine ⟨D, _, rfl, .inl ⟨SqL.of hd4, fun rt hrt => ?_⟩⟩
      have hp5 : upd H4 rt (.tup (us.map V.ref)) p = some (.ins A.C_Table dx (putF "columns" (.ref ct) [])) := by rw [upd_ne (ne_of_none (s4 _ _ hp3) hrt)]; exact s4 _ _ hp3
      refine ⟨_, rfl, p, _, dx, _, rfl, hp5, T.cl_Table, T.n_Table_rows, (by show 1 < 1000; decide), ?_⟩
      have nrp : rt ≠ p := fun z => by rw [z] at hrt; rw [s4 _ _ hp3] at hrt; cases hrt
      have nrc : ct ≠ rt := ne_of_none (s4 _ _ hc3) hrt
      refine k _ (fun b o hb e => ?_) ⟨dx, ct, rt, us, upd_same, ?_, ?_, ?_⟩
      · have z := s4 _ _ (sm3 b o hb e)
        rw [upd_ne hb, upd_ne (ne_of_none z hrt)]
        exact z
      · rw [upd_ne npc, upd_ne nrc]; exact s4 _ _ hc3
      · rw [upd_ne nrp]; exact upd_same
      · exact (hl4.same (same_new (o := .tup (us.map V.ref)) hrt)).updT hp5 (fun xs z => nomatch z)
end
end My
set_option maxRecDepth 100000
set_option maxHeartbeats 4000000
namespace My
open PySem L2
/-! ### masks -/
def b2n (p : Prop) [Decidable p] : Nat := if p then 1 else 0
/-- the mask of a set of names -/
def ms : List Str → List Str → Nat
  | [], _ => 0
  | c :: cs, S => b2n (c ∈ S) + 2 * ms cs S
theorem ms_lt (cs S : List Str) : ms cs S < 2 ^ cs.length := by
  induction cs with
  | nil => exact Nat.one_pos
  | cons c cs ih =>
    have : b2n (c ∈ S) ≤ 1 := by unfold b2n; split <;> omega
    show b2n (c ∈ S) + 2 * ms cs S < 2 ^ (cs.length + 1)
    rw [Nat.pow_succ]; omega
theorem ms_congr {cs S S' : List Str} (h : ∀ c ∈ cs, c ∈ S ↔ c ∈ S') : ms cs S = ms cs S' := by
  induction cs with
  | nil => rfl
  | cons c cs ih =>
    show b2n (c ∈ S) + 2 * ms cs S = b2n (c ∈ S') + 2 * ms cs S'
    rw [ih fun x hx => h x (List.mem_cons_of_mem _ hx)]
    unfold b2n
    by_cases q : c ∈ S
    · rw [if_pos q, if_pos ((h c List.mem_cons_self).mp q)]
    · rw [if_neg q, if_neg fun z => q ((h c List.mem_cons_self).mpr z)]
theorem b2n_bit (p : Prop) [Decidable p] (m i : Nat) : (b2n p + 2 * m).testBit (i + 1) = m.testBit i := by
  rw [Nat.testBit_succ]
  have : (b2n p + 2 * m) / 2 = m := by unfold b2n; split <;> omega
  rw [this]
theorem b2n_bit0 (p : Prop) [Decidable p] (m : Nat) : (b2n p + 2 * m).testBit 0 = decide p := by
  rw [Nat.testBit_zero]
  unfold b2n
  by_cases h : p <;> simp [h] <;> omega
theorem ms_bit (cs S : List Str) (i : Nat) : (ms cs S).testBit i = (match cs[i]? with | some c => decide (c ∈ S) | none => false) := by
  induction cs generalizing i with
  | nil => simp [ms]
  | cons c cs ih =>
    cases i with
    | zero => exact b2n_bit0 _ _
    | succ i =>
      rw [List.getElem?_cons_succ, ← ih i]
      exact b2n_bit _ _ _
theorem ms_and (cs S S' : List Str) : ms cs S &&& ms cs S' = ms cs (S.filter (· ∈ S')) := by
  apply Nat.eq_of_testBit_eq
  intro i
  rw [Nat.testBit_and, ms_bit, ms_bit, ms_bit]
  cases cs[i]? with
  | none => rfl
  | some c => simp [List.mem_filter]
theorem ms_or (cs S S' : List Str) : ms cs S ||| ms cs S' = ms cs (S ++ S') := by
  apply Nat.eq_of_testBit_eq
  intro i
  rw [Nat.testBit_or, ms_bit, ms_bit, ms_bit]
  cases cs[i]? with
  | none => rfl
  | some c => simp [List.mem_append]
theorem ms_sub (cs S S' : List Str) : ms cs S = ms cs (S.filter (· ∈ S')) + ms cs (S.filter (fun x => x ∉ S')) := by
  induction cs with
  | nil => rfl
  | cons c cs ih =>
    show b2n (c ∈ S) + 2 * ms cs S = b2n _ + 2 * ms cs _ + (b2n _ + 2 * ms cs _)
    rw [ih]
    have : b2n (c ∈ S) = b2n (c ∈ S.filter (· ∈ S')) + b2n (c ∈ S.filter (fun x => x ∉ S')) := by
      unfold b2n
      by_cases h1 : c ∈ S <;> by_cases h2 : c ∈ S' <;> simp [List.mem_filter, h1, h2]
    omega
theorem ms_zero {cs S : List Str} : ms cs S = 0 ↔ ∀ c ∈ cs, c ∉ S := by
  induction cs with
  | nil => exact ⟨fun _ c hc => by simp at hc, fun _ => rfl⟩
  | cons c cs ih =>
    have e : ms (c :: cs) S = b2n (c ∈ S) + 2 * ms cs S := rfl
    rw [e]
    constructor
    · intro h x hx
      have h1 : b2n (c ∈ S) = 0 := by omega
      have h2 : ms cs S = 0 := by omega
      rcases List.mem_cons.mp hx with rfl | hx
      · intro hm; unfold b2n at h1; rw [if_pos hm] at h1; omega
      · exact ih.mp h2 x hx
    · intro h
      have h1 : b2n (c ∈ S) = 0 := by unfold b2n; rw [if_neg (h c List.mem_cons_self)]
      have h2 : ms cs S = 0 := ih.mpr fun x hx => h x (List.mem_cons_of_mem _ hx)
      omega
/-- the numbers in a mask -/
def nums (m L : Nat) : List Nat := (List.range L).filter fun i => m.testBit i
theorem nums_ms (cs S : List Str) {L : Nat} (h1 : ms cs S < 2 ^ L) : nums (ms cs S) L = nums (ms cs S) cs.length := by
  have key : ∀ (m a b : Nat), m < 2 ^ a → nums m (a + b) = nums m a := fun m a b hm => by
    unfold nums
    rw [List.range_add, List.filter_append]
    have : ((List.range b).map (a + ·)).filter (fun i => m.testBit i) = [] := by
      rw [List.filter_eq_nil_iff]
      intro x hx
      obtain ⟨j, _, rfl⟩ := List.mem_map.mp hx
      rw [Nat.testBit_lt_two_pow (Nat.lt_of_lt_of_le hm (Nat.pow_le_pow_right (by omega) (Nat.le_add_right _ _)))]
      exact Bool.false_ne_true
    rw [this, List.append_nil]
  rcases Nat.le_total L cs.length with h | h
  · obtain ⟨b, e⟩ := Nat.exists_eq_add_of_le h
    rw [e, key _ _ _ h1]
  · obtain ⟨b, e⟩ := Nat.exists_eq_add_of_le h
    rw [e, key _ _ _ (ms_lt cs S)]
def pick (cs : List Str) (l : List Nat) : List Str := l.filterMap fun i => cs[i]?
theorem pick_ms (cs S : List Str) : pick cs (nums (ms cs S) cs.length) = canon cs S := by
  unfold pick nums canon
  induction cs with
  | nil => rfl
  | cons c cs ih =>
    have e : ((List.range cs.length).map Nat.succ).filter (fun i => (ms (c :: cs) S).testBit i) = ((List.range cs.length).filter fun i => (ms cs S).testBit i).map Nat.succ := by
      rw [List.filter_map]
      congr 2
      funext i
      exact b2n_bit _ _ _
    have e0 : (ms (c :: cs) S).testBit 0 = decide (c ∈ S) := b2n_bit0 _ _
    rw [List.length_cons, List.range_succ_eq_map, List.filter_cons, e, e0, List.filter_cons, ← ih]
    have e2 : List.filterMap (fun i => (c :: cs)[i]?) (((List.range cs.length).filter fun i => (ms cs S).testBit i).map Nat.succ) = List.filterMap (fun i => cs[i]?) ((List.range cs.length).filter fun i => (ms cs S).testBit i) := by
      rw [List.filterMap_map]; rfl
    by_cases q : c ∈ S
    · rw [decide_eq_true q, if_pos rfl, if_pos rfl, List.filterMap_cons, e2]; rfl
    · rw [decide_eq_false q, if_neg Bool.false_ne_true, if_neg Bool.false_ne_true, e2]
theorem nums_lt {m L i : Nat} (h : i ∈ nums m L) : i < L := List.mem_range.mp (List.mem_filter.mp h).1
/-- in the columns' order -/
def Cn (cs S : List Str) : Prop := canon cs S = S
theorem Cn.sub {cs S : List Str} (h : Cn cs S) {x : Str} (hx : x ∈ S) : x ∈ cs := by
  rw [← h] at hx; exact (List.mem_filter.mp hx).1
theorem mem_canon {cs S : List Str} {x : Str} : x ∈ canon cs S ↔ x ∈ cs ∧ x ∈ S := by
  unfold canon; rw [List.mem_filter, decide_eq_true_iff]
theorem canon_congr {cs S S' : List Str} (h : ∀ c ∈ cs, c ∈ S ↔ c ∈ S') : canon cs S = canon cs S' := by
  unfold canon
  exact List.filter_congr fun x hx => by rw [decide_eq_decide]; exact h x hx
theorem cn_canon (cs S : List Str) : Cn cs (canon cs S) := canon_congr fun c hc => by rw [mem_canon]; exact ⟨fun h => h.2, fun h => ⟨hc, h⟩⟩
theorem ms_canon (cs S : List Str) : ms cs (canon cs S) = ms cs S := ms_congr fun c hc => by rw [mem_canon]; exact ⟨fun h => h.2, fun h => ⟨hc, h⟩⟩
theorem cn_self (cs : List Str) : Cn cs cs := by
  unfold Cn canon; rw [List.filter_eq_self]; intro x hx; exact decide_eq_true hx
theorem cn_filter {cs S : List Str} (h : Cn cs S) (p : Str → Bool) : Cn cs (S.filter p) := by
  have e : S.filter p = canon cs (S.filter p) := by
    conv => lhs; rw [← h]
    unfold canon
    rw [List.filter_filter]
    exact List.filter_congr fun x hx => by
      rw [Bool.eq_iff_iff, Bool.and_eq_true, decide_eq_true_iff, decide_eq_true_iff, List.mem_filter]; exact And.comm
  exact e.symm
theorem filter_cn {cs S S' : List Str} (h : Cn cs S) (h' : Cn cs S') : S.filter (· ∈ S') = S'.filter (· ∈ S) := by
  rw [← cn_filter h, ← cn_filter h']
  exact canon_congr fun c hc => by simp only [List.mem_filter, decide_eq_true_iff]; exact And.comm
theorem ms_nil {cs T : List Str} (h : Cn cs T) : ms cs T = 0 ↔ T = [] := by
  rw [ms_zero]
  constructor
  · intro q
    cases T with
    | nil => rfl
    | cons a t => exact absurd List.mem_cons_self (q a (h.sub List.mem_cons_self))
  · rintro rfl c _ h; cases h
theorem len_parts (S : List Str) (p : Str → Bool) : S.length = (S.filter p).length + (S.filter fun x => !p x).length := by
  induction S with
  | nil => rfl
  | cons a t ih =>
    rw [List.filter_cons, List.filter_cons, List.length_cons]
    cases p a <;> simp <;> omega
theorem cn_one {cs : List Str} (nd : cs.Nodup) {z : Str} (hz : z ∈ cs) : Cn cs [z] := by
  unfold Cn canon
  induction cs with
  | nil => cases hz
  | cons c cs ih =>
    have nd := List.nodup_cons.mp nd
    rw [List.filter_cons]
    rcases List.mem_cons.mp hz with rfl | hz
    · rw [if_pos (decide_eq_true List.mem_cons_self)]
      have : cs.filter (fun x => decide (x ∈ [z])) = [] := by
        rw [List.filter_eq_nil_iff]; intro x hx h
        rw [decide_eq_true_iff, List.mem_singleton] at h
        exact nd.1 (h ▸ hx)
      rw [this]
    · have : ¬ decide (c ∈ [z]) = true := by
        rw [decide_eq_true_iff, List.mem_singleton]; intro h; exact nd.1 (h ▸ hz)
      rw [if_neg this]; exact ih nd.2 hz
/-! ### steps -/
inductive St where
  | row (z : Int)
  | all
  | one (z : Str)
  | bin (w : Str) (i j : Int)
def St.enc : St → List V
  | .row z => [.str "row", .int z]
  | .all => [.str "all"]
  | .one z => [.str "one", .str z]
  | .bin w i j => [.str w, .int i, .int j]
def W3 (w : Str) : Prop := w = ("both" : Str) ∨ w = ("either" : Str) ∨ w = ("first" : Str)
def St.ok : St → Prop
  | .row z => -1 ≤ z ∧ z ≤ 1000
  | .all => True
  | .one z => Good z
  | .bin w i j => W3 w ∧ (-1 ≤ i ∧ i ≤ 1000) ∧ (-1 ≤ j ∧ j ≤ 1000)
def joinM (cs : List Str) (w : Str) (S T : List Str) : Option (List Str) :=
  if S.filter (· ∈ T) = [] then none
  else if w = ("both" : Str) then some (S.filter (· ∈ T))
  else if w = ("either" : Str) then some (cs.filter fun x => x ∈ S || x ∈ T)
  else if (S.filter (· ∈ T)).length < S.length ∧ (S.filter (· ∈ T)).length < T.length then some (S.filter fun x => x ∉ T)
  else none
def stepM (cs : List Str) (rs sets : List (List Str)) : St → Option (List Str)
  | .row z => if 0 ≤ z ∧ z < rs.length then (if canon cs (rs.getD z.toNat []) = [] then none else some (canon cs (rs.getD z.toNat []))) else none
  | .all => if 0 < cs.length then some cs else none
  | .one z => if z ∈ cs then some [z] else none
  | .bin w i j => if (0 ≤ i ∧ i < sets.length) ∧ (0 ≤ j ∧ j < sets.length) then joinM cs w (sets.getD i.toNat []) (sets.getD j.toNat []) else none
def comb (w : Str) (a b : Nat) : Nat := if w = ("both" : Str) ∨ a &&& b = 0 then a &&& b else if w = ("either" : Str) then a ||| b else if a &&& b = b then 0 else a - (a &&& b)
def pmask (cs : List Str) (rs : List (List Str)) (m : List Nat) : St → Nat
  | .row z => if 0 ≤ z ∧ z < rs.length then ms cs (rs.getD z.toNat []) else 0
  | .all => ms cs cs
  | .one z => ms cs [z]
  | .bin w i j => if (0 ≤ i ∧ i < m.length) ∧ (0 ≤ j ∧ j < m.length) then comb w (m.getD i.toNat 0) (m.getD j.toNat 0) else 0
/-- what a step's mask is -/
def omask (cs : List Str) : Option (List Str) → Nat
  | none => 0
  | some S => ms cs S
theorem comb_eq {cs S T : List Str} {w : Str} (hw : W3 w) (hS : Cn cs S) (hT : Cn cs T) : comb w (ms cs S) (ms cs T) = omask cs (joinM cs w S T) := by
  have hB := cn_filter hS (· ∈ T)
  have e1 := ms_sub cs S T
  have e2 := ms_sub cs T S
  rw [← filter_cn hS hT] at e2
  have l1 := len_parts S (· ∈ T)
  have l2 := len_parts T (· ∈ S)
  rw [← filter_cn hS hT] at l2
  have n1 := ms_nil (cn_filter hS fun x => x ∉ T)
  have n2 := ms_nil (cn_filter hT fun x => x ∉ S)
  have f1 : (S.filter fun x => !decide (x ∈ T)) = S.filter fun x => x ∉ T := List.filter_congr fun x _ => by simp
  have f2 : (T.filter fun x => !decide (x ∈ S)) = T.filter fun x => x ∉ S := List.filter_congr fun x _ => by simp
  rw [f1] at l1; rw [f2] at l2
  unfold comb joinM
  rw [ms_and]
  by_cases hb : S.filter (· ∈ T) = []
  · rw [if_pos hb, if_pos (.inr ((ms_nil hB).mpr hb)), (ms_nil hB).mpr hb]; rfl
  · rw [if_neg hb]
    have nz : ms cs (S.filter (· ∈ T)) ≠ 0 := fun h => hb ((ms_nil hB).mp h)
    by_cases h1 : w = ("both" : Str)
    · rw [if_pos h1, if_pos (.inl h1)]; rfl
    · rw [if_neg h1, if_neg fun h => h.elim h1 nz]
      by_cases h2 : w = ("either" : Str)
      · rw [if_pos h2, if_pos h2, ms_or]
        show _ = ms cs (cs.filter _)
        exact ms_congr fun c hc => by simp [List.mem_filter, List.mem_append, hc]
      · rw [if_neg h2, if_neg h2]
        have z1 : (S.filter fun x => x ∉ T) = [] ↔ (S.filter fun x => x ∉ T).length = 0 := List.length_eq_zero_iff.symm
        have z2 : (T.filter fun x => x ∉ S) = [] ↔ (T.filter fun x => x ∉ S).length = 0 := List.length_eq_zero_iff.symm
        by_cases hc : ms cs (S.filter (· ∈ T)) = ms cs T
        · have : ms cs (T.filter fun x => x ∉ S) = 0 := by omega
          have := z2.mp (n2.mp this)
          rw [if_pos hc, if_neg (by omega)]; rfl
        · rw [if_neg hc]
          have hd : (T.filter fun x => x ∉ S).length ≠ 0 := fun h => by
            have := n2.mpr (z2.mpr h); omega
          by_cases he : (S.filter fun x => x ∉ T) = []
          · have h0 := n1.mpr he
            have := z1.mp he
            rw [if_neg (by omega)]
            show _ = 0
            omega
          · have : (S.filter fun x => x ∉ T).length ≠ 0 := fun h => he (z1.mpr h)
            rw [if_pos (by omega)]
            show _ = ms cs _
            omega
theorem joinM_cn {cs S T R : List Str} {w : Str} (hS : Cn cs S) (h : joinM cs w S T = some R) : Cn cs R ∧ R ≠ [] := by
  unfold joinM at h
  split at h
  · cases h
  · rename_i hb
    split at h
    · cases h; exact ⟨cn_filter hS _, hb⟩
    · split at h
      · cases h
        refine ⟨cn_filter (cn_self cs) _, fun e => hb ?_⟩
        rw [List.filter_eq_nil_iff] at e ⊢
        intro x hx hx2
        have := e x (hS.sub hx)
        rw [decide_eq_true hx] at this
        exact this rfl
      · split at h
        · rename_i hl
          cases h
          refine ⟨cn_filter hS _, fun e => ?_⟩
          have l1 := len_parts S (· ∈ T)
          have f1 : (S.filter fun x => !decide (x ∈ T)) = S.filter fun x => x ∉ T := List.filter_congr fun x _ => by simp
          rw [f1, e] at l1
          have := hl.1
          simp at l1
          omega
        · cases h
theorem getD_of {α : Type} {l : List α} {i : Nat} {x d : α} (h : l[i]? = some x) : l.getD i d = x := by
  rw [List.getD_eq_getElem?_getD, h]; rfl
theorem getD_map {l : List (List Str)} {cs : List Str} {i : Nat} (h : i < l.length) : (l.map (ms cs)).getD i 0 = ms cs (l.getD i []) := by
  rw [getD_of (x := ms cs l[i]) (by rw [List.getElem?_map, List.getElem?_eq_getElem h]; rfl), getD_of (List.getElem?_eq_getElem h)]
theorem stepM_cn {cs : List Str} {rs sets : List (List Str)} (nd : cs.Nodup) (hs : ∀ S ∈ sets, Cn cs S) {s : St} {R : List Str} (h : stepM cs rs sets s = some R) : Cn cs R ∧ R ≠ [] := by
  cases s with
  | row z =>
    dsimp only [stepM] at h
    split at h
    · split at h
      · cases h
      · cases h; exact ⟨cn_canon _ _, by assumption⟩
    · cases h
  | all =>
    dsimp only [stepM] at h
    split at h
    · cases h; exact ⟨cn_self _, fun e => by subst e; simp at *⟩
    · cases h
  | one z =>
    dsimp only [stepM] at h
    split at h
    · rename_i hz; cases h; exact ⟨cn_one nd hz, List.cons_ne_nil _ _⟩
    · cases h
  | bin w i j =>
    dsimp only [stepM] at h
    split at h
    · rename_i hij
      refine joinM_cn ?_ h
      have hi : i.toNat < sets.length := by omega
      rw [getD_of (List.getElem?_eq_getElem hi)]
      exact hs _ (List.getElem_mem hi)
    · cases h
theorem step_eq {cs : List Str} {rs sets : List (List Str)} (hs : ∀ S ∈ sets, Cn cs S) {s : St} (ok : s.ok) : pmask cs rs (sets.map (ms cs)) s = omask cs (stepM cs rs sets s) := by
  cases s with
  | row z =>
    show (if _ then _ else _) = omask cs (if _ then _ else _)
    split
    · split
      · rename_i h
        have := (ms_nil (cn_canon cs (rs.getD z.toNat []))).mpr h
        rw [ms_canon] at this
        exact this
      · exact (ms_canon _ _).symm
    · rfl
  | all =>
    show ms cs cs = omask cs (if _ then _ else _)
    split
    · rfl
    · rename_i h
      have : cs = [] := List.length_eq_zero_iff.mp (by omega)
      rw [this]; rfl
  | one z =>
    show ms cs [z] = omask cs (if _ then _ else _)
    split
    · rfl
    · rename_i h
      exact ms_zero.mpr fun c hc hm => h (by rw [List.mem_singleton] at hm; exact hm ▸ hc)
  | bin w i j =>
    show (if _ then _ else _) = omask cs (if _ then _ else _)
    rw [List.length_map]
    split
    · rename_i h
      have hi : i.toNat < sets.length := by omega
      have hj : j.toNat < sets.length := by omega
      rw [getD_map hi, getD_map hj]
      refine comb_eq ok.1 ?_ ?_
      · rw [getD_of (List.getElem?_eq_getElem hi)]; exact hs _ (List.getElem_mem hi)
      · rw [getD_of (List.getElem?_eq_getElem hj)]; exact hs _ (List.getElem_mem hj)
    · rfl
theorem omask_pos {cs : List Str} {rs sets : List (List Str)} (nd : cs.Nodup) (hs : ∀ S ∈ sets, Cn cs S) (s : St) : omask cs (stepM cs rs sets s) = 0 ↔ stepM cs rs sets s = none := by
  cases e : stepM cs rs sets s with
  | none => exact ⟨fun _ => rfl, fun _ => rfl⟩
  | some R =>
    have h := stepM_cn nd hs e
    exact ⟨fun q => absurd ((ms_nil h.1).mp q) h.2, fun q => nomatch q⟩
end My
set_option maxRecDepth 100000
set_option maxHeartbeats 4000000
namespace My
open PySem L2
theorem atR_of {us : List Addr} {i : Nat} {u : Addr} (h : us[i]? = some u) : atI (us.map V.ref) (i : Int) = some (V.ref u) := atI_nat (by rw [List.getElem?_map, h]; rfl)
theorem Lss.ex {f : List V → HO} {H : Hp} {us : List Addr} {ls : List (List Str)} (h : Lss f H us ls) {i : Nat} (hi : i < ls.length) : ∃ u w, us[i]? = some u ∧ ls[i]? = some w ∧ H u = some (f (sv w)) := by
  have hi' : i < us.length := by rw [h.len]; exact hi
  exact ⟨us[i], ls[i], List.getElem?_eq_getElem hi', List.getElem?_eq_getElem hi, h.at_ i _ _ (List.getElem?_eq_getElem hi') (List.getElem?_eq_getElem hi)⟩
def bl (m : Nat) : Nat := Builtin.Int.intBits (m : Int)
theorem bl_le {m k : Nat} (h : m < 2 ^ k) : bl m ≤ k := PyProof.Rows.intBits_le (by rw [Int.natAbs_natCast]; exact h)
theorem lt_bl (m : Nat) : m < 2 ^ bl m := by
  unfold bl Builtin.Int.intBits
  split
  · rename_i h
    have : m = 0 := by simpa using h
    rw [this]; exact Nat.one_pos
  · rw [Int.natAbs_natCast]; exact Nat.lt_log2_self
theorem bit_odd (m i : Nat) : (m : Int) / 2 ^ i = ((m / 2 ^ i : Nat) : Int) := by push_cast; rfl
theorem bit_dec (m i : Nat) : m.testBit i = decide (m / 2 ^ i % 2 = 1) := Nat.testBit_eq_decide_div_mod_eq
section
variable {P : Program} {w : World} {K : PySem.W.Frag} {mg : Str → Option Value} {base : Heap} {A : Ad}
def niv (l : List Nat) : List V := l.map fun n => V.int (n : Nat)
theorem nums_len (m L : Nat) (h : L ≤ 1000) : (niv (nums m L)).length ≤ 1000000 := by
  have := List.length_filter_le (fun i => m.testBit i) (List.range L)
  rw [List.length_range] at this
  unfold niv nums; rw [List.length_map]; omega
def spNumsIn : Sp := fun vs H Q _ => ∃ m : Nat, vs = [.int (m : Nat)] ∧ m < 4096 ∧ ∀ a H', Same H H' → H' a = some (.lst (niv (nums m (bl m)))) → Q (.ref a) H'
theorem ok_numsIn (T : Txt P K mg A) : FnOk P w K mg base CX0 1 A.a_numbers_in A.d_numbers_in ["mask"] spNumsIn := by
  refine T.F_numbers_in.ok sc_numbers_in (fun vs H Q E h => ?_) (fun cdv A' outer s H vs Q E hr h => ?_)
  · obtain ⟨m, rfl, _⟩ := h
    rfl
  · obtain ⟨m, rfl, hm, k⟩ := h
    refine ⟨_, (pss_one (ps_ret (pe_lc (own := [("number", 1)]) (g := gName 1) (tt := _) rfl sc_numbers_in.nd (pi_range1 (by rfl) T.n_range (pa_cons (pe_bits (pv 0)) pa_nil)) (blkOk_by (N := ["mask", "number"]) (sc := defScope s_numbers_in) (by decide +kernel)) (fun _ _ _ _ _ => (pg_name (i := 1) sc_numbers_in.nd rfl (Or.inl rfl))) (fun _ _ _ _ _ => (pts_one (show PT _ _ (tTruK K _) from pt_truth (pe_op op_odd (pe_op op_shrN (pv 0) (pv 1)) pe_int) (by intro _; rfl)))) (fun _ _ _ _ _ => (pv 1))))), ?_⟩
    have hb : bl m ≤ 12 := bl_le hm
    have e1 : ((bl m : Nat) : Int).toNat = bl m := Int.toNat_natCast _
    refine ⟨_, rfl, _, rfl, _, rfl, (by show -2 ^ 62 ≤ ((bl m : Nat) : Int); omega), (by show ((bl m : Nat) : Int) < 2 ^ 62; omega), fun D hD => lc_range (n := (((bl m : Nat) : Int)).toNat) (PvS H D fun i => niv (nums m i)) (pv0 hD rfl) ?_ ?_⟩
    · rintro i H3 hi q
      rw [e1] at hi
      have hi0 : (0 : Int) + (i : Int) = (i : Int) := by omega
      have stepT : m.testBit i = true → niv (nums m (i + 1)) = niv (nums m i) ++ [V.int (0 + (i : Int))] := fun h => by
        unfold niv nums
        rw [List.range_succ, List.filter_append, List.map_append, List.filter_cons_of_pos h, hi0]; rfl
      have stepF : m.testBit i = false → niv (nums m (i + 1)) = niv (nums m i) := fun h => by
        unfold niv nums
        rw [List.range_succ, List.filter_append, List.map_append, List.filter_cons_of_neg (by rw [h]; decide)]; simp
      have hl := nums_len m i (by omega)
      refine ⟨rfl, _, rfl, _, rfl, _, i, rfl, by rw [hi0], m / 2 ^ i, by rw [bit_odd], rfl, ?_⟩
      rw [bit_dec] at stepT stepF
      by_cases h : m / 2 ^ i % 2 = 1
      · rw [h]
        exact ⟨_, rfl, ifT rfl ⟨_, rfl, q.push hD (stepT (decide_eq_true h)) hl⟩⟩
      · have : m / 2 ^ i % 2 = 0 := by omega
        rw [this]
        exact ⟨_, rfl, ifF rfl (q.skip (stepF (decide_eq_false h)))⟩
    · rintro H3 ⟨sm, h3⟩
      have h3 : H3 D = some (.lst (niv (nums m ((bl m : Nat) : Int).toNat))) := h3
      rw [e1] at h3
      exact k D H3 sm h3
theorem niv_get {l : List Nat} {i : Nat} {v : V} (h : (niv l)[i]? = some v) : ∃ n, l[i]? = some n ∧ v = .int (n : Nat) := by
  unfold niv at h
  rw [List.getElem?_map] at h
  cases e : l[i]? with
  | none => rw [e] at h; cases h
  | some t => rw [e] at h; exact ⟨t, rfl, (Option.some.inj h).symm⟩
def spNamesIn : Sp := fun vs H Q _ => ∃ c cs S, vs = [.int (ms cs S : Nat), .ref c] ∧ H c = some (.tup (sv cs)) ∧ cs.length ≤ 12 ∧ ∀ t H', Same H H' → H t = none → H' t = some (.tup (sv (canon cs S))) → Q (.ref t) H'
theorem ok_namesIn (T : Txt P K mg A) : FnOk P w K mg base CX0 2 A.a_names_in A.d_names_in ["mask", "columns"] spNamesIn := by
  have G_numbers_in := ok_numsIn (P := P) (w := w) (base := base) T
  refine T.F_names_in.ok sc_names_in (fun vs H Q E h => ?_) (fun cdv A' outer s H vs Q E hr h => ?_)
  · obtain ⟨c, cs, S, rfl, _⟩ := h
    rfl
  · obtain ⟨c, cs, S, rfl, h1, hl, k⟩ := h
    refine ⟨_, (pss_one (ps_ret (pe_callTy call_tuple_of (by rfl) T.n_tuple (by decide +kernel) (pa_cons (pe_lc (own := [("number", 2)]) (g := gName 2) (tt := tYes) rfl sc_names_in.nd (pi_list (pe_call G_numbers_in (hr.mono (by decide)) rfl T.mg_numbers_in T.F_numbers_in.kp T.b_numbers_in .nil pass0 (pa_cons (pv 0) pa_nil))) (blkOk_by (N := ["mask", "columns", "number"]) (sc := defScope s_names_in) (by decide +kernel)) (fun _ _ _ _ _ => (pg_name (i := 2) sc_names_in.nd rfl (Or.inl rfl))) (fun _ _ _ _ _ => pts_nil) (fun _ _ _ _ _ => (pe_ix (show IxR _ (rIxT K) from ix_tup) (pv 1) (pv 2) (fun _ _ => rfl)))) pa_nil)))), ?_⟩
    have hm : ms cs S < 4096 := Nat.lt_of_lt_of_le (ms_lt cs S) (Nat.pow_le_pow_right (n := 2) (by omega) hl)
    refine ⟨_, rfl, _, rfl, hm, fun a H1 s1 ha => ?_⟩
    have eN : nums (ms cs S) (bl (ms cs S)) = nums (ms cs S) cs.length := nums_ms cs S (lt_bl _)
    rw [eN] at ha
    have hN : ∀ n ∈ nums (ms cs S) cs.length, n < cs.length := fun n hn => nums_lt hn
    have eP := pick_ms cs S
    have nl : (nums (ms cs S) cs.length).length ≤ 12 := by
      have := List.length_filter_le (fun i => (ms cs S).testBit i) (List.range cs.length)
      rw [List.length_range] at this
      exact Nat.le_trans this hl
    generalize nums (ms cs S) cs.length = N at ha hN eP nl
    refine ⟨a, rfl, ⟨_, SqL.of ha⟩, fun D hD => lc_it walk_list (PvS H1 D fun i => sv (pick cs (N.take i))) (pv0 hD rfl) (fun i H2 _ q => q.1.seq (SqL.of ha)) ?_ ?_⟩
    · rintro i x H3 H4 hi q ⟨rfl, hx⟩
      obtain ⟨n, hn, rfl⟩ := niv_get hx
      have hn2 := hN n (List.mem_of_getElem? hn)
      have hc : cs[n]? = some cs[n] := List.getElem?_eq_getElem hn2
      have at_ : atI (sv cs) ((n : Nat) : Int) = some (V.str cs[n]) := atI_nat (by rw [List.getElem?_map, hc]; rfl)
      refine ⟨rfl, _, rfl, _, rfl, c, _, _, _, rfl, rfl, SqT.of (q.1 _ _ (s1 _ _ h1)), at_, q.push hD ?_ ?_⟩
      · show sv (pick cs (N.take (i + 1))) = sv (pick cs (N.take i)) ++ [V.str cs[n]]
        rw [take_succ hn]
        unfold pick
        rw [List.filterMap_append, List.filterMap_cons, hc]
        exact List.map_append
      · rw [len_sv]
        have := List.length_filterMap_le (fun i => cs[i]?) (N.take i)
        rw [List.length_take] at this
        unfold pick; omega
    · rintro H3 ⟨sm, h3⟩
      have h3 : H3 D = some (.lst (sv (pick cs (N.take (niv N).length)))) := h3
      unfold niv at h3
      rw [List.length_map, List.take_length, eP] at h3
      exact ⟨D, _, rfl, .inl ⟨SqL.of h3, fun t ht => k t _ ((s1.trans sm).trans (same_new ht)) (by
        cases e : H t with
        | none => rfl
        | some u => rw [(s1.trans sm) _ _ e] at ht; cases ht) upd_same⟩⟩
/-! ### mask_of -/
def pws (l : List Nat) : List Int := l.map fun n => (2 : Int) ^ n
theorem pws_sum (m : Nat) (k : Nat) : (pws (nums m k)).sum = ((m % 2 ^ k : Nat) : Int) := by
  induction k with
  | zero => unfold pws nums; simp [Nat.mod_one]
  | succ k ih =>
    have e : nums m (k + 1) = nums m k ++ (if m.testBit k then [k] else []) := by
      unfold nums
      rw [List.range_succ, List.filter_append]
      congr 1
      rw [List.filter_cons]
      split <;> rfl
    rw [e]
    unfold pws at ih ⊢
    rw [List.map_append, List.sum_append, ih, Nat.mod_pow_succ, bit_dec]
    by_cases h : m / 2 ^ k % 2 = 1
    · rw [decide_eq_true h, if_pos rfl, h]; simp
    · have h0 : m / 2 ^ k % 2 = 0 := by omega
      rw [decide_eq_false h, if_neg Bool.false_ne_true, h0]; simp
theorem pws_ms (cs S : List Str) : (pws (nums (ms cs S) cs.length)).sum = ((ms cs S : Nat) : Int) := by
  rw [pws_sum, Nat.mod_eq_of_lt (ms_lt cs S)]
def spMaskOf (sq : Hp → Addr → List V → Prop) : Sp := fun vs H Q _ => ∃ n c cs S, vs = [.ref n, .ref c] ∧ sq H n (sv S) ∧ H c = some (.tup (sv cs)) ∧ cs.length ≤ 12 ∧ ∀ H', Same H H' → Q (.int (ms cs S : Nat)) H'
theorem ok_maskOfSqL (T : Txt P K mg A) : FnOk P w K mg base CX0 1 A.a_mask_of A.d_mask_of ["names", "columns"] (spMaskOf (SqL K)) := by
  refine T.F_mask_of.ok sc_mask_of (fun vs H Q E h => ?_) (fun cdv A' outer s H vs Q E hr h => ?_)
  · obtain ⟨n, c, cs, S, rfl, _⟩ := h
    rfl
  · obtain ⟨n, c, cs, S, rfl, h1, h2, hl, k⟩ := h
    refine ⟨_, (pss_one (ps_ret (pe_callB (cr_sum rfl) (by rfl) T.n_sum (by decide +kernel) (pa_cons (pe_lc (own := [("number", 2), ("name", 3)]) (g := gTup K 2 (gCons (gName 2) (gCons (gName 3) gNil))) (tt := _) rfl sc_mask_of.nd (pi_enumT (by rfl) T.n_enumerate (pa_cons (pv 1) pa_nil)) (blkOk_by (N := ["names", "columns", "number", "name"]) (sc := defScope s_mask_of) (by decide +kernel)) (fun _ _ _ _ _ => (pg_tup (by rfl) (pgs_cons (pg_name (i := 2) sc_mask_of.nd rfl (Or.inl rfl)) (pgs_cons (pg_name (i := 3) sc_mask_of.nd rfl (Or.inl rfl)) pgs_nil)))) (fun _ _ _ _ _ => (pts_one (pt_cmpR (show OpR _ _ (rIn K false) from op_in_seq) (pv 3) (pv 0) (by with_unfolding_all rfl)))) (fun _ _ _ _ _ => (pe_op op_shlN pe_int (pv 2)))) pa_nil)))), ?_⟩
    refine ⟨_, rfl, c, _, rfl, SqT.of h2, fun D hD => lc_it walk_enumT (PvS H D fun i => (pws (nums (ms cs S) i)).map V.int) (pv0 hD rfl) (fun i H2 _ p => p.1.tup (SqT.of h2)) ?_ ?_⟩
    · rintro i x H3 H4 hi q ⟨t, _, _, rfl, ht, rfl, ⟨⟩, hx⟩
      obtain ⟨z, hz, rfl⟩ := sv_get hx
      have hi' : i < cs.length := by rw [len_sv] at hi; exact hi
      have q' := q.more (same_new (o := .tup [.int (i : Nat), .str z]) ht)
      have hb : (ms cs S).testBit i = decide (z ∈ S) := by rw [ms_bit, hz]
      have stepT : z ∈ S → (pws (nums (ms cs S) (i + 1))).map V.int = (pws (nums (ms cs S) i)).map V.int ++ [V.int (2 ^ i)] := fun h => by
        unfold pws nums
        rw [List.range_succ, List.filter_append, List.map_append, List.map_append, List.filter_cons_of_pos (by rw [hb]; exact decide_eq_true h)]; rfl
      have stepF : z ∉ S → (pws (nums (ms cs S) (i + 1))).map V.int = (pws (nums (ms cs S) i)).map V.int := fun h => by
        unfold pws nums
        rw [List.range_succ, List.filter_append, List.filter_cons_of_neg (by rw [hb, decide_eq_false h]; exact Bool.false_ne_true)]; simp
      have hl2 : ((pws (nums (ms cs S) i)).map V.int).length ≤ 1000000 := by
        have := List.length_filter_le (fun i => (ms cs S).testBit i) (List.range i)
        rw [List.length_range] at this
        unfold pws nums; rw [List.length_map, List.length_map]; omega
      refine ⟨t, _, rfl, SqT.of upd_same, rfl, _, _, rfl, _, _, rfl, rfl, rfl, ?_⟩
      refine ⟨_, rfl, _, rfl, n, _, rfl, .inl (q'.1.seq h1), rfl, flat_sv _, _, rfl, ?_⟩
      rw [if_neg Bool.false_ne_true, inV_str]
      by_cases hm : z ∈ S
      · refine ifT (decide_eq_true hm) ⟨_, rfl, 1, i, rfl, rfl, ⟨by omega, ?_⟩, ?_⟩
        · have : Builtin.Int.intBits 1 ≤ 1 := PyProof.Rows.intBits_le (by decide)
          omega
        · rw [Int.one_mul]; exact q'.push hD (stepT hm) hl2
      · exact ifF (decide_eq_false hm) (q'.skip (stepF hm))
    · rintro H3 ⟨sm, h3⟩
      have h3 : H3 D = some (.lst ((pws (nums (ms cs S) (sv cs).length)).map V.int)) := h3
      rw [len_sv] at h3
      refine ⟨D, _, rfl, SqL.of h3, ?_⟩
      rw [pws_ms]
      exact k H3 sm
theorem ok_maskOfSqT (T : Txt P K mg A) : FnOk P w K mg base CX0 1 A.a_mask_of A.d_mask_of ["names", "columns"] (spMaskOf (SqT K)) := by
  refine T.F_mask_of.ok sc_mask_of (fun vs H Q E h => ?_) (fun cdv A' outer s H vs Q E hr h => ?_)
  · obtain ⟨n, c, cs, S, rfl, _⟩ := h
    rfl
  · obtain ⟨n, c, cs, S, rfl, h1, h2, hl, k⟩ := h
    refine ⟨_, (pss_one (ps_ret (pe_callB (cr_sum rfl) (by rfl) T.n_sum (by decide +kernel) (pa_cons (pe_lc (own := [("number", 2), ("name", 3)]) (g := gTup K 2 (gCons (gName 2) (gCons (gName 3) gNil))) (tt := _) rfl sc_mask_of.nd (pi_enumT (by rfl) T.n_enumerate (pa_cons (pv 1) pa_nil)) (blkOk_by (N := ["names", "columns", "number", "name"]) (sc := defScope s_mask_of) (by decide +kernel)) (fun _ _ _ _ _ => (pg_tup (by rfl) (pgs_cons (pg_name (i := 2) sc_mask_of.nd rfl (Or.inl rfl)) (pgs_cons (pg_name (i := 3) sc_mask_of.nd rfl (Or.inl rfl)) pgs_nil)))) (fun _ _ _ _ _ => (pts_one (pt_cmpR (show OpR _ _ (rIn K false) from op_in_seq) (pv 3) (pv 0) (by with_unfolding_all rfl)))) (fun _ _ _ _ _ => (pe_op op_shlN pe_int (pv 2)))) pa_nil)))), ?_⟩
    refine ⟨_, rfl, c, _, rfl, SqT.of h2, fun D hD => lc_it walk_enumT (PvS H D fun i => (pws (nums (ms cs S) i)).map V.int) (pv0 hD rfl) (fun i H2 _ p => p.1.tup (SqT.of h2)) ?_ ?_⟩
    · rintro i x H3 H4 hi q ⟨t, _, _, rfl, ht, rfl, ⟨⟩, hx⟩
      obtain ⟨z, hz, rfl⟩ := sv_get hx
      have hi' : i < cs.length := by rw [len_sv] at hi; exact hi
      have q' := q.more (same_new (o := .tup [.int (i : Nat), .str z]) ht)
      have hb : (ms cs S).testBit i = decide (z ∈ S) := by rw [ms_bit, hz]
      have stepT : z ∈ S → (pws (nums (ms cs S) (i + 1))).map V.int = (pws (nums (ms cs S) i)).map V.int ++ [V.int (2 ^ i)] := fun h => by
        unfold pws nums
        rw [List.range_succ, List.filter_append, List.map_append, List.map_append, List.filter_cons_of_pos (by rw [hb]; exact decide_eq_true h)]; rfl
      have stepF : z ∉ S → (pws (nums (ms cs S) (i + 1))).map V.int = (pws (nums (ms cs S) i)).map V.int := fun h => by
        unfold pws nums
        rw [List.range_succ, List.filter_append, List.filter_cons_of_neg (by rw [hb, decide_eq_false h]; exact Bool.false_ne_true)]; simp
      have hl2 : ((pws (nums (ms cs S) i)).map V.int).length ≤ 1000000 := by
        have := List.length_filter_le (fun i => (ms cs S).testBit i) (List.range i)
        rw [List.length_range] at this
        unfold pws nums; rw [List.length_map, List.length_map]; omega
      refine ⟨t, _, rfl, SqT.of upd_same, rfl, _, _, rfl, _, _, rfl, rfl, rfl, ?_⟩
      refine ⟨_, rfl, _, rfl, n, _, rfl, .inr (q'.1.tup h1), rfl, flat_sv _, _, rfl, ?_⟩
      rw [if_neg Bool.false_ne_true, inV_str]
      by_cases hm : z ∈ S
      · refine ifT (decide_eq_true hm) ⟨_, rfl, 1, i, rfl, rfl, ⟨by omega, ?_⟩, ?_⟩
        · have : Builtin.Int.intBits 1 ≤ 1 := PyProof.Rows.intBits_le (by decide)
          omega
        · rw [Int.one_mul]; exact q'.push hD (stepT hm) hl2
      · exact ifF (decide_eq_false hm) (q'.skip (stepF hm))
    · rintro H3 ⟨sm, h3⟩
      have h3 : H3 D = some (.lst ((pws (nums (ms cs S) (sv cs).length)).map V.int)) := h3
      rw [len_sv] at h3
      refine ⟨D, _, rfl, SqL.of h3, ?_⟩
      rw [pws_ms]
      exact k H3 sm
def spGet (C : Addr) : Sp := fun vs H Q _ => ∃ p n cs rs, vs = [.ref p, .int (n : Nat)] ∧ Tb C H p cs rs ∧ n < rs.length ∧ ∀ t r, rs[n]? = some r → H t = some (.tup (sv (canon cs r))) → Q (.ref t) H
theorem ok_get (T : Txt P K mg A) : FnOk P w K mg base CX0 1 A.a_Table_getitem A.d_Table_getitem ["self", "at"] (spGet A.C_Table) := by
  refine T.F_Table_getitem.ok sc_Table_getitem (fun vs H Q E h => ?_) (fun cdv A' outer s H vs Q E hr h => ?_)
  · obtain ⟨p, n, cs, rs, rfl, _⟩ := h
    rfl
  · obtain ⟨p, n, cs, rs, rfl, hT, hn, k⟩ := h
    refine ⟨_, (pss_cons (ps_if (pt_not (pt_chain op_le op_lt pe_int (pv 1) (pe_callB call_len_seq (by rfl) T.n_len (by decide +kernel) (pa_cons (pe_fld (pv 0) rfl) pa_nil)))) (pss_one ps_never) pss_nil)
      (pss_one (ps_ret (pe_ix ix_tup (pe_fld (pv 0) rfl) (pv 1) (fun _ _ => rfl))))), ?_⟩
    obtain ⟨dx, ct, rt, ts, h1, hc, hr2, hts⟩ := hT
    have hn' : n < (rs.map (canon cs)).length := by rw [List.length_map]; exact hn
    obtain ⟨t, r2, et, er, ht⟩ := hts.ex hn'
    have hl : (ts.map V.ref).length = rs.length := by rw [List.length_map, hts.len, List.length_map]
    obtain ⟨r, hr3, rfl⟩ : ∃ r, rs[n]? = some r ∧ r2 = canon cs r := by
      rw [List.getElem?_map] at er
      cases e : rs[n]? with
      | none => rw [e] at er; cases er
      | some r => rw [e] at er; exact ⟨r, rfl, (Option.some.inj er).symm⟩
    refine ⟨_, rfl, _, _, rfl, rfl, _, rfl, itY (by omega) ⟨_, rfl, _, _, _, _, _, rfl, h1, T.cl_Table, T.n_Table_rows, fldsT_rows _ _, rt, _, rfl, .inr (SqT.of hr2), _, _, rfl, rfl, _, rfl, ifF (by rw [decide_eq_true (by rw [hl]; omega)]; rfl) ?_⟩⟩
    exact ⟨_, rfl, _, _, _, _, _, rfl, h1, T.cl_Table, T.n_Table_rows, fldsT_rows _ _, _, rfl, rt, _, _, _, rfl, rfl, SqT.of hr2, atR_of et, k t r hr3 ht⟩
def spLen (C : Addr) : Sp := fun vs H Q _ => ∃ p cs rs, vs = [.ref p] ∧ Tb C H p cs rs ∧ Q (.int (rs.length : Nat)) H
theorem ok_len (T : Txt P K mg A) : FnOk P w K mg base CX0 1 A.a_Table_len A.d_Table_len ["self"] (spLen A.C_Table) := by
  refine T.F_Table_len.ok sc_Table_len (fun vs H Q E h => ?_) (fun cdv A' outer s H vs Q E hr h => ?_)
  · obtain ⟨p, cs, rs, rfl, _⟩ := h
    rfl
  · obtain ⟨p, cs, rs, rfl, hT, k⟩ := h
    refine ⟨_, (pss_one (ps_ret (pe_callB call_len_seq (by rfl) T.n_len (by decide +kernel) (pa_cons (pe_fld (pv 0) rfl) pa_nil)))), ?_⟩
    obtain ⟨dx, ct, rt, ts, h1, hc, hr2, hts⟩ := hT
    have hl : (ts.map V.ref).length = rs.length := by rw [List.length_map, hts.len, List.length_map]
    rw [← hl] at k
    exact ⟨_, rfl, _, _, _, _, _, rfl, h1, T.cl_Table, T.n_Table_rows, fldsT_rows _ _, rt, _, rfl, .inr (SqT.of hr2), k⟩
end
end My
set_option maxRecDepth 100000
set_option maxHeartbeats 4000000
namespace My
open PySem L2
theorem sEq {a b : Str} (h : a = b) : decide (V.str a = V.str b) = true := by rw [h]; exact decide_eq_true rfl
theorem sNe {a b : Str} (h : a ≠ b) : decide (V.str a = V.str b) = false := decide_eq_false fun e => h (V.str.inj e)
theorem iEq {a b : Int} (h : a = b) : decide (V.int a = V.int b) = true := by rw [h]; exact decide_eq_true rfl
theorem iNe {a b : Int} (h : a ≠ b) : decide (V.int a = V.int b) = false := decide_eq_false fun e => h (V.int.inj e)
theorem ne_row_all : ("all" : Str) ≠ "row" := by decide +kernel
theorem ne_row_one : ("one" : Str) ≠ "row" := by decide +kernel
theorem ne_all_one : ("one" : Str) ≠ "all" := by decide +kernel
theorem W3.row {w : Str} (h : W3 w) : w ≠ "row" := by rcases h with rfl | rfl | rfl <;> decide +kernel
theorem W3.all {w : Str} (h : W3 w) : w ≠ "all" := by rcases h with rfl | rfl | rfl <;> decide +kernel
theorem W3.one {w : Str} (h : W3 w) : w ≠ "one" := by rcases h with rfl | rfl | rfl <;> decide +kernel
section
variable {P : Program} {w : World} {K : PySem.W.Frag} {mg : Str → Option Value} {base : Heap} {A : Ad}
def spComb : Sp := fun vs H Q _ => ∃ (z : Str) (a : Nat) (b : Nat), vs = [.str z, .int (a : Nat), .int (b : Nat)] ∧ Q (.int (comb z a b : Nat)) H
theorem ok_comb (T : Txt P K mg A) : FnOk P w K mg base CX0 1 A.a_combined A.d_combined ["word", "one", "other"] spComb := by
  refine T.F_combined.ok sc_combined (fun vs H Q E h => ?_) (fun cdv A' outer s H vs Q E hr h => ?_)
  · obtain ⟨z, a, b, rfl, _⟩ := h
    rfl
  · obtain ⟨z, a, b, rfl, k⟩ := h
    refine ⟨_, (pss_cons (ps_set (i := 3) sc_combined.nd rfl (Or.inl rfl) (pe_op op_andN (pv 1) (pv 2)))
      (pss_cons (ps_if (PW.pt (pw_or (pt_cmpR op_eq (pv 0) pe_str (nomark _)) (pw_or1 (pt_cmpR op_eq (pv 3) pe_int (nomark _))))) (pss_one (ps_ret (pv 3))) pss_nil)
      (pss_cons (ps_if (pt_cmpR op_eq (pv 0) pe_str (nomark _)) (pss_one (ps_ret (pe_op op_orN (pv 1) (pv 2)))) pss_nil)
      (pss_one (ps_ret (pe_ifExp (pt_cmpR op_eq (pv 3) (pv 2) (nomark _)) pe_int (pe_op op_sub (pv 1) (pv 3)))))))), ?_⟩
    unfold comb at k
    refine ⟨_, rfl, _, rfl, _, _, rfl, rfl, ?_⟩
    refine ⟨_, rfl, rfl, _, rfl, ?_⟩
    by_cases h1 : z = ("both" : Str)
    · refine ifT (sEq h1) (ifT rfl ?_)
      rw [if_pos (.inl h1)] at k
      exact ⟨_, rfl, k⟩
    · refine ifF (sNe h1) ?_
      refine ⟨_, rfl, rfl, _, rfl, ?_⟩
      by_cases h2 : a &&& b = 0
      · refine ifT (iEq (by omega)) ?_
        rw [if_pos (.inr h2)] at k
        exact ⟨_, rfl, k⟩
      · refine ifF (iNe (by omega)) ?_
        rw [if_neg (fun h => h.elim h1 h2)] at k
        refine ⟨_, rfl, rfl, _, rfl, ?_⟩
        by_cases h3 : z = ("either" : Str)
        · refine ifT (sEq h3) ?_
          rw [if_pos h3] at k
          exact ⟨_, rfl, _, rfl, _, _, rfl, rfl, k⟩
        · refine ifF (sNe h3) ?_
          rw [if_neg h3] at k
          refine ⟨_, rfl, _, rfl, rfl, _, rfl, ?_⟩
          by_cases h4 : a &&& b = b
          · refine ifT (iEq (by omega)) ?_
            rw [if_pos h4] at k
            exact k
          · refine ifF (iNe (by omega)) ?_
            rw [if_neg h4] at k
            refine ⟨_, rfl, _, rfl, _, _, rfl, rfl, ?_⟩
            have : a &&& b ≤ a := Nat.and_le_left
            have e : (a : Int) - ((a &&& b : Nat) : Int) = ((a - (a &&& b) : Nat) : Int) := by omega
            show Q (V.int ((a : Int) - ((a &&& b : Nat) : Int))) H
            rw [e]; exact k
def spStep (C : Addr) (K : PySem.W.Frag) : Sp := fun vs H Q _ => ∃ (p : Addr) (st : Addr) (m : Addr) (cs : List Str) (rs : List (List Str)) (mm : List Nat) (s : St), vs = [.ref p, .ref st, .ref m] ∧ Tb C H p cs rs ∧ H st = some (.tup s.enc) ∧ SqL K H m (niv mm) ∧ s.ok ∧ cs.length ≤ 12 ∧ rs.length ≤ 48 ∧ mm.length ≤ 1000 ∧
  ∀ H', Same H H' → Q (.int (pmask cs rs mm s : Nat)) H'
theorem at0 (a : V) (l : List V) : atI (a :: l) 0 = some a := by show atI _ ((0 : Nat) : Int) = _; exact atI_nat rfl
theorem at1 (a b : V) (l : List V) : atI (a :: b :: l) 1 = some b := by show atI _ ((1 : Nat) : Int) = _; exact atI_nat rfl
theorem at2 (a b c : V) (l : List V) : atI (a :: b :: c :: l) 2 = some c := by show atI _ ((2 : Nat) : Int) = _; exact atI_nat rfl
theorem niv_at {mm : List Nat} {i : Nat} (h : i < mm.length) : atI (niv mm) (i : Int) = some (V.int (mm.getD i 0 : Nat)) := by
  refine atI_nat ?_
  unfold niv
  rw [List.getElem?_map, List.getElem?_eq_getElem h, getD_of (List.getElem?_eq_getElem h)]; rfl
theorem len_niv (l : List Nat) : (niv l).length = l.length := List.length_map ..
theorem ok_step (T : Txt P K mg A) : FnOk P w K mg base CX0 3 A.a_step_mask A.d_step_mask ["table", "step", "masks"] (spStep A.C_Table K) := by
  have G_mask_of := ok_maskOfSqL (P := P) (w := w) (base := base) T
  have G_mask_ofT := ok_maskOfSqT (P := P) (w := w) (base := base) T
  have G_combined := ok_comb (P := P) (w := w) (base := base) T
  have G_Table_getitem := ok_get (P := P) (w := w) (base := base) T
  have G_Table_len := ok_len (P := P) (w := w) (base := base) T
  refine T.F_step_mask.ok sc_step_mask (fun vs H Q E h => ?_) (fun cdv A' outer s H vs Q E hr h => ?_)
  · obtain ⟨p, st, m, cs, rs, mm, s, rfl, _⟩ := h
    rfl
  · obtain ⟨p, st, m, cs, rs, mm, s, rfl, hT, hs, hm, ok, hc, hrs, hmm, k⟩ := h
    refine ⟨_, (pss_cons (ps_set (i := 3) sc_step_mask.nd rfl (Or.inl rfl) (pe_ix ix_tup (pv 1) pe_int (fun _ _ => rfl)))
      (pss_cons (ps_if (pt_cmpR op_eq (pv 3) pe_str (nomark _)) (pss_one (ps_ret (pe_ifExp (pt_chain op_le op_lt pe_int (pe_ix ix_tup (pv 1) pe_int (fun _ _ => rfl)) (pe_callB (show CallR _ _ (rLenOwn A.C_Table _ _) from call_lenOwn G_Table_len T.b_Table_len pass0 (hr.mono (by decide)) T.m_Table_len.at_ T.m_Table_len.fn) (by rfl) T.n_len (by decide +kernel) (pa_cons (pv 0) pa_nil))) (pe_call G_mask_ofT (hr.mono (by decide)) rfl T.mg_mask_of T.F_mask_of.kp T.b_mask_of .nil pass0 (pa_cons (pe_ixOwn G_Table_getitem T.b_Table_getitem passS0 (hr.mono (by decide)) T.m_Table_getitem.at_ (fnIn_of T.F_Table_getitem) T.m_Table_getitem.fn (pv 0) (pe_ix ix_tup (pv 1) pe_int (fun _ _ => rfl)) (fun _ _ => by with_unfolding_all rfl)) (pa_cons (pe_fld (pv 0) rfl) pa_nil))) pe_int))) pss_nil)
      (pss_cons (ps_if (pt_cmpR op_eq (pv 3) pe_str (nomark _)) (pss_one (ps_ret (pe_call G_mask_ofT (hr.mono (by decide)) rfl T.mg_mask_of T.F_mask_of.kp T.b_mask_of .nil pass0 (pa_cons (pe_fld (pv 0) rfl) (pa_cons (pe_fld (pv 0) rfl) pa_nil))))) pss_nil)
      (pss_cons (ps_if (pt_cmpR op_eq (pv 3) pe_str (nomark _)) (pss_one (ps_ret (pe_call G_mask_of (hr.mono (by decide)) rfl T.mg_mask_of T.F_mask_of.kp T.b_mask_of .nil pass0 (pa_cons (pe_lst (pa_cons (pe_ix ix_tup (pv 1) pe_int (fun _ _ => rfl)) pa_nil)) (pa_cons (pe_fld (pv 0) rfl) pa_nil))))) pss_nil)
      (pss_cons (ps_if (pt_not (PW.pt (pw_and (pt_chain op_le op_lt pe_int (pe_ix ix_tup (pv 1) pe_int (fun _ _ => rfl)) (pe_callB call_len_seq (by rfl) T.n_len (by decide +kernel) (pa_cons (pv 2) pa_nil))) (pw_and1 (pt_chain op_le op_lt pe_int (pe_ix ix_tup (pv 1) pe_int (fun _ _ => rfl)) (pe_callB call_len_seq (by rfl) T.n_len (by decide +kernel) (pa_cons (pv 2) pa_nil))))))) (pss_one (ps_ret pe_int)) pss_nil)
      (pss_one (ps_ret (pe_call G_combined (hr.mono (by decide)) rfl T.mg_combined T.F_combined.kp T.b_combined .nil pass0 (pa_cons (pv 3) (pa_cons (pe_ix ix_list (pv 2) (pe_ix ix_tup (pv 1) pe_int (fun _ _ => rfl)) (fun _ _ => rfl)) (pa_cons (pe_ix ix_list (pv 2) (pe_ix ix_tup (pv 1) pe_int (fun _ _ => rfl)) (fun _ _ => rfl)) pa_nil))))))))))), ?_⟩
    obtain ⟨dx, ct, rt, ts, h1, hct, hrt, hts⟩ := id hT
    cases s with
    | row z =>
      refine ⟨_, rfl, st, _, _, _, rfl, rfl, SqT.of hs, at0 _ _, ?_⟩
      refine ⟨_, rfl, rfl, _, rfl, ifT (sEq rfl) ?_⟩
      refine ⟨_, rfl, st, _, _, _, rfl, rfl, SqT.of hs, at1 _ _ _, _, _, rfl, rfl, _, rfl, ?_⟩
      by_cases h0 : 0 ≤ z
      · refine itY h0 ⟨_, rfl, p, dx, _, rfl, h1, p, cs, rs, rfl, hT, rs.length, rfl, by omega, _, _, rfl, rfl, _, rfl, ?_⟩
        have k : ∀ H', Same H H' → Q (.int ((if 0 ≤ z ∧ z < rs.length then ms cs (rs.getD z.toNat []) else 0 : Nat) : Nat)) H' := k
        by_cases h2 : z < rs.length
        · refine itY h2 ?_
          rw [if_pos ⟨h0, h2⟩] at k
          obtain ⟨n, rfl⟩ := Int.eq_ofNat_of_zero_le h0
          have hn : n < rs.length := by omega
          refine ⟨_, rfl, _, rfl, st, _, _, _, rfl, rfl, SqT.of hs, at1 _ _ _, p, dx, _, rfl, h1, p, n, cs, rs, rfl, hT, hn, fun t r e ht => ?_⟩
          rw [Int.toNat_natCast, getD_of e] at k
          refine ⟨_, rfl, _, _, _, _, _, rfl, h1, T.cl_Table, T.n_Table_columns, fldsT_columns _ _, t, ct, cs, canon cs r, rfl, SqT.of ht, hct, hc, fun H' sm => ?_⟩
          rw [ms_canon]
          exact k H' sm
        · refine itN h2 ?_
          rw [if_neg (fun h => h2 h.2)] at k
          exact k H (Same.refl _)
      · refine itN h0 ?_
        have k : ∀ H', Same H H' → Q (.int ((if 0 ≤ z ∧ z < rs.length then ms cs (rs.getD z.toNat []) else 0 : Nat) : Nat)) H' := k
        rw [if_neg (fun h => h0 h.1)] at k
        exact ⟨_, rfl, ifF rfl (k H (Same.refl _))⟩
    | all =>
      refine ⟨_, rfl, st, _, _, _, rfl, rfl, SqT.of hs, at0 _ _, ?_⟩
      refine ⟨_, rfl, rfl, _, rfl, ifF (sNe ne_row_all) ?_⟩
      refine ⟨_, rfl, rfl, _, rfl, ifT (sEq rfl) ?_⟩
      exact ⟨_, rfl, _, _, _, _, _, rfl, h1, T.cl_Table, T.n_Table_columns, fldsT_columns _ _, _, rfl, _, _, _, _, _, rfl, h1, T.cl_Table, T.n_Table_columns, fldsT_columns _ _, ct, ct, cs, cs, rfl, SqT.of hct, hct, hc, k⟩
    | one z =>
      refine ⟨_, rfl, st, _, _, _, rfl, rfl, SqT.of hs, at0 _ _, ?_⟩
      refine ⟨_, rfl, rfl, _, rfl, ifF (sNe ne_row_one) ?_⟩
      refine ⟨_, rfl, rfl, _, rfl, ifF (sNe ne_all_one) ?_⟩
      refine ⟨_, rfl, rfl, _, rfl, ifT (sEq rfl) ?_⟩
      refine ⟨_, rfl, st, _, _, _, rfl, rfl, SqT.of hs, at1 _ _ _, (by show 1 ≤ sizeLine; decide), fun l hl => ?_⟩
      have s1 := same_new (o := .lst [V.str z]) hl
      have h1 := s1 _ _ h1
      exact ⟨_, rfl, _, _, _, _, _, rfl, h1, T.cl_Table, T.n_Table_columns, fldsT_columns _ _, l, ct, cs, [z], rfl, SqL.of upd_same, s1 _ _ hct, hc, fun H' sm => k H' (s1.trans sm)⟩
    | bin z i j =>
      refine ⟨_, rfl, st, _, _, _, rfl, rfl, SqT.of hs, at0 _ _, ?_⟩
      refine ⟨_, rfl, rfl, _, rfl, ifF (sNe ok.1.row) ?_⟩
      refine ⟨_, rfl, rfl, _, rfl, ifF (sNe ok.1.all) ?_⟩
      refine ⟨_, rfl, rfl, _, rfl, ifF (sNe ok.1.one) ?_⟩
      have k : ∀ H', Same H H' → Q (.int ((if (0 ≤ i ∧ i < mm.length) ∧ (0 ≤ j ∧ j < mm.length) then comb z (mm.getD i.toNat 0) (mm.getD j.toNat 0) else 0 : Nat) : Nat)) H' := k
      refine ⟨_, rfl, st, _, _, _, rfl, rfl, SqT.of hs, at1 _ _ _, _, _, rfl, rfl, _, rfl, ?_⟩
      have no : ¬ ((0 ≤ i ∧ i < mm.length) ∧ (0 ≤ j ∧ j < mm.length)) → Q (.int 0) H := fun h => by
        rw [if_neg h] at k; exact k H (Same.refl _)
      by_cases c1 : 0 ≤ i
      · refine itY c1 ⟨_, rfl, m, _, rfl, .inl hm, _, _, rfl, rfl, _, rfl, ?_⟩
        rw [len_niv]
        by_cases c2 : i < mm.length
        · refine itY c2 ⟨_, rfl, st, _, _, _, rfl, rfl, SqT.of hs, at2 _ _ _ _, _, _, rfl, rfl, _, rfl, ?_⟩
          by_cases c3 : 0 ≤ j
          · refine itY c3 ⟨_, rfl, m, _, rfl, .inl hm, _, _, rfl, rfl, _, rfl, ?_⟩
            rw [len_niv]
            by_cases c4 : j < mm.length
            · rw [if_pos ⟨⟨c1, c2⟩, ⟨c3, c4⟩⟩] at k
              obtain ⟨a, rfl⟩ := Int.eq_ofNat_of_zero_le c1
              obtain ⟨b, rfl⟩ := Int.eq_ofNat_of_zero_le c3
              rw [Int.toNat_natCast, Int.toNat_natCast] at k
              refine ifF (by rw [decide_eq_true c4]; rfl) ?_
              exact ⟨_, rfl, _, rfl, _, rfl, st, _, _, _, rfl, rfl, SqT.of hs, at1 _ _ _, m, _, _, _, rfl, rfl, hm, niv_at (by omega), _, rfl, _, rfl, st, _, _, _, rfl, rfl, SqT.of hs, at2 _ _ _ _, m, _, _, _, rfl, rfl, hm, niv_at (by omega), z, _, _, rfl, k H (Same.refl _)⟩
            · exact ifT (by rw [decide_eq_false c4]; rfl) (no fun h => c4 h.2.2)
          · exact itN c3 ⟨_, rfl, ifT rfl (no fun h => c3 h.2.1)⟩
        · exact itN c2 (ifT rfl (no fun h => c2 h.1.2))
      · exact itN c1 ⟨_, rfl, ifF rfl (ifT rfl (no fun h => c1 h.1.1))⟩
end
end My
set_option maxRecDepth 100000
set_option maxHeartbeats 4000000
namespace My
open PySem L2
theorem none_of {H H' : Hp} (s : Same H H') {a : Addr} (h : H' a = none) : H a = none := by
  cases e : H a with
  | none => rfl
  | some o => rw [s _ _ e] at h; cases h
/-- at ts stand the steps ss -/
def Sts (H : Hp) (ts : List Addr) (ss : List St) : Prop := ts.length = ss.length ∧ ∀ (i : Nat) t s, ts[i]? = some t → ss[i]? = some s → H t = some (.tup s.enc)
theorem Sts.same {H H' : Hp} {ts : List Addr} {ss : List St} (h : Sts H ts ss) (e : Same H H') : Sts H' ts ss := ⟨h.1, fun i t s a b => e _ _ (h.2 i t s a b)⟩
theorem Sts.nil {H : Hp} : Sts H [] [] := ⟨rfl, fun i t s h => by simp at h⟩
theorem Sts.app {H : Hp} {ts : List Addr} {ss : List St} {t : Addr} {s : St} (h : Sts H ts ss) (ht : H t = some (.tup s.enc)) : Sts H (ts ++ [t]) (ss ++ [s]) := by
  refine ⟨by rw [List.length_append, List.length_append, h.1]; rfl, fun i u y a b => ?_⟩
  rcases Nat.lt_trichotomy i ts.length with c | c | c
  · rw [List.getElem?_append_left c] at a
    rw [List.getElem?_append_left (by rw [← h.1]; exact c)] at b
    exact h.2 i u y a b
  · rw [c, List.getElem?_append_right (Nat.le_refl _), Nat.sub_self] at a
    rw [c, h.1, List.getElem?_append_right (Nat.le_refl _), Nat.sub_self] at b
    cases a; cases b; exact ht
  · rw [List.getElem?_append_right (by omega), List.getElem?_eq_none (by simp; omega)] at a
    cases a
theorem Sts.upd {H : Hp} {ts : List Addr} {ss : List St} {l : Addr} {u o : HO} (h : Sts H ts ss) (hl : H l = some u) (hu : ∀ xs, u ≠ .tup xs) : Sts (upd H l o) ts ss := ⟨h.1, fun i t x a b => by
  have := h.2 i t x a b
  rw [upd_ne (ne_of this hl (fun z => hu _ z.symm))]
  exact this⟩
/-- the steps ss give the sets, each allowed -/
def Runs (cs : List Str) (rs : List (List Str)) (ss : List St) (sets : List (List Str)) : Prop := ss.length = sets.length ∧ ∀ (i : Nat) s S, ss[i]? = some s → sets[i]? = some S → stepM cs rs (sets.take i) s = some S
theorem Runs.nil {cs : List Str} {rs : List (List Str)} : Runs cs rs [] [] := ⟨rfl, fun i s S h => by simp at h⟩
theorem Runs.app {cs : List Str} {rs sets : List (List Str)} {ss : List St} {s : St} {S : List Str} (h : Runs cs rs ss sets) (e : stepM cs rs sets s = some S) : Runs cs rs (ss ++ [s]) (sets ++ [S]) := by
  refine ⟨by rw [List.length_append, List.length_append, h.1]; rfl, fun i u y a b => ?_⟩
  rcases Nat.lt_trichotomy i ss.length with c | c | c
  · rw [List.getElem?_append_left c] at a
    rw [List.getElem?_append_left (by rw [← h.1]; exact c)] at b
    rw [List.take_append_of_le_length (by rw [← h.1]; omega)]
    exact h.2 i u y a b
  · rw [c, List.getElem?_append_right (Nat.le_refl _), Nat.sub_self] at a
    rw [c, h.1, List.getElem?_append_right (Nat.le_refl _), Nat.sub_self] at b
    cases a; cases b
    rw [c, h.1, List.take_left]; exact e
  · rw [List.getElem?_append_right (by omega), List.getElem?_eq_none (by simp; omega)] at a
    cases a
theorem Runs.cn {cs : List Str} {rs sets : List (List Str)} {ss : List St} (nd : cs.Nodup) (h : Runs cs rs ss sets) : ∀ S ∈ sets, Cn cs S ∧ S ≠ [] := by
  have key : ∀ (n i : Nat), i < n → ∀ S, sets[i]? = some S → Cn cs S ∧ S ≠ [] := by
    intro n
    induction n with
    | zero => intro i hi; omega
    | succ n ih =>
      intro i hi S hS
      have hl := (List.getElem?_eq_some_iff.mp hS).1
      have hs : ss[i]? = some (ss[i]'(by rw [h.1]; exact hl)) := List.getElem?_eq_getElem _
      refine stepM_cn nd (fun R hR => ?_) (h.2 i _ S hs hS)
      obtain ⟨j, hj, e⟩ := List.mem_take_iff_getElem.mp hR
      exact (ih j (by omega) R (by rw [← e]; exact List.getElem?_eq_getElem _)).1
  intro S hS
  obtain ⟨i, hi, e⟩ := List.getElem_of_mem hS
  exact key (i + 1) i (Nat.lt_succ_self i) S (by rw [← e]; exact List.getElem?_eq_getElem _)
/-- the masks of the first i sets -/
def mks (cs : List Str) (sets : List (List Str)) (i : Nat) : List Nat := (sets.take i).map (ms cs)
theorem mks_len {cs : List Str} {sets : List (List Str)} {i : Nat} (h : i ≤ sets.length) : (mks cs sets i).length = i := by
  unfold mks; rw [List.length_map, List.length_take]; omega
theorem mks_succ {cs : List Str} {sets : List (List Str)} {i : Nat} {S : List Str} (h : sets[i]? = some S) : niv (mks cs sets (i + 1)) = niv (mks cs sets i) ++ [V.int (ms cs S : Nat)] := by
  unfold mks niv
  rw [take_succ h, List.map_append, List.map_append]; rfl
theorem good_mask {cs : List Str} {rs sets : List (List Str)} {ss : List St} (nd : cs.Nodup) (h : Runs cs rs ss sets) {i : Nat} {s : St} {S : List Str} (hs : ss[i]? = some s) (hS : sets[i]? = some S) (ok : s.ok) : pmask cs rs (mks cs sets i) s = ms cs S ∧ ms cs S ≠ 0 := by
  have hc : ∀ R ∈ sets.take i, Cn cs R := fun R hR => (h.cn nd R (List.mem_of_mem_take hR)).1
  have e := step_eq (rs := rs) hc ok
  rw [h.2 i s S hs hS] at e
  have := h.cn nd S (List.mem_of_getElem? hS)
  exact ⟨e, fun z => this.2 ((ms_nil this.1).mp z)⟩
section
variable {P : Program} {w : World} {K : PySem.W.Frag} {mg : Str → Option Value} {base : Heap} {A : Ad}
def spFollow (C : Addr) (sq : Hp → Addr → List V → Prop) : Sp := fun vs H Q _ => ∃ (p l : Addr) (cs : List Str) (rs sets : List (List Str)) (ts : List Addr) (ss : List St), vs = [.ref p, .ref l] ∧ Tb C H p cs rs ∧ sq H l (ts.map V.ref) ∧ Sts H ts ss ∧ (∀ s ∈ ss, s.ok) ∧ Runs cs rs ss sets ∧
  cs.Nodup ∧ cs.length ≤ 12 ∧ rs.length ≤ 48 ∧ ss.length ≤ 100 ∧ ∀ (D : Addr) us H', Same H H' → H D = none → H' D = some (.lst (us.map V.ref)) → Lss .tup H' us sets → Q (.ref D) H'
theorem ok_follow (T : Txt P K mg A) : FnOk P w K mg base CX0 4 A.a_follow A.d_follow ["table", "steps"] (spFollow A.C_Table (SqL K)) := by
  have G_step_mask := ok_step (P := P) (w := w) (base := base) T
  have G_names_in := ok_namesIn (P := P) (w := w) (base := base) T
  refine T.F_follow.ok sc_follow (fun vs H Q E h => ?_) (fun cdv A' outer s H vs Q E hr h => ?_)
  · obtain ⟨p, l, cs, rs, sets, ts, ss, rfl, _⟩ := h
    rfl
  · obtain ⟨p, l, cs, rs, sets, ts, ss, rfl, hT, hL, hS, ok, hR, nd, hc, hrs, hsl, k⟩ := h
    refine ⟨_, (pss_cons (ps_set (i := 2) sc_follow.nd rfl (Or.inl rfl) (pe_lst pa_nil))
      (pss_cons (ps_for PassesOwn.never rfl (pi_enum (by rfl) T.n_enumerate (pa_cons (pv 1) pa_nil)) (pg_tup (by rfl) (pgs_cons (pg_name (i := 3) sc_follow.nd rfl (Or.inl rfl)) (pgs_cons (pg_name (i := 4) sc_follow.nd rfl (Or.inl rfl)) pgs_nil)))
        (pss_cons (ps_set (i := 5) sc_follow.nd rfl (Or.inl rfl) (pe_call G_step_mask (hr.mono (by decide)) rfl T.mg_step_mask T.F_step_mask.kp T.b_step_mask .nil pass0 (pa_cons (pv 0) (pa_cons (pv 4) (pa_cons (pv 2) pa_nil)))))
      (pss_cons (ps_if (pt_cmpR op_eq (pv 5) pe_int (nomark _)) (pss_one ps_never) pss_nil)
      (pss_one (ps_expr (pe_bm PySem.F.plainAttrs_list PySem.F.slot_list_append PySem.F.type_list_append mt_append (pv 2) (pa_cons (pv 5) pa_nil)))))))
      (pss_one (ps_ret (pe_lc (own := [("mask", 5)]) (g := gName 5) (tt := tYes) rfl sc_follow.nd (pi_list (pv 2)) (blkOk_by (N := ["table", "steps", "masks", "index", "step", "mask"]) (sc := defScope s_follow) (by decide +kernel)) (fun _ _ _ _ _ => (pg_name (i := 5) sc_follow.nd rfl (Or.inl rfl))) (fun _ _ _ _ _ => pts_nil) (fun _ _ _ _ _ => (pe_call G_names_in (hr.mono (by decide)) rfl T.mg_names_in T.F_names_in.kp T.b_names_in .nil pass0 (pa_cons (pv 5) (pa_cons (show PE _ _ (tFld K _ "columns") from pe_fld (pv 0) rfl) pa_nil))))))))), ?_⟩
    have lt : (ts.map V.ref).length = ss.length := by rw [List.length_map, hS.1]
    refine ⟨by show 0 ≤ sizeLine; decide, fun m hm => ?_⟩
    have s0 := same_new (o := .lst []) hm
    refine ⟨_, rfl, l, _, rfl, s0.seq hL, for_it walk_enum (fun i σ H2 => Same H H2 ∧ H2 m = some (.lst (niv (mks cs sets i))) ∧ ∃ u1 u2 u3 : Option V, σ = [some (.ref p), some (.ref l), some (.ref m), u1, u2, u3]) ⟨s0, upd_same, none, none, none, rfl⟩ (fun i σ H2 _ q => q.1.seq hL) ?_ ?_⟩
    · rintro i x σ H2 H3 hi ⟨sm, hm2, u1, u2, u3, rfl⟩ ⟨t, _, _, rfl, ht, rfl, ⟨⟩, hx⟩
      obtain ⟨b, hb, rfl⟩ := refs_get hx
      rw [lt] at hi
      have hs : ss[i]? = some ss[i] := List.getElem?_eq_getElem hi
      have hi2 : i < sets.length := by rw [← hR.1]; exact hi
      have hS2 : sets[i]? = some sets[i] := List.getElem?_eq_getElem hi2
      have s3 : Same H2 (upd H2 t (.tup [.int (i : Nat), .ref b])) := same_new ht
      have s3' := sm.trans s3
      obtain ⟨e1, e2⟩ := good_mask nd hR hs hS2 (ok _ (List.getElem_mem hi))
      refine ⟨t, _, rfl, SqT.of upd_same, rfl, _, _, rfl, _, _, rfl, rfl, ?_⟩
      refine ⟨_, rfl, _, rfl, _, rfl, p, b, m, cs, rs, mks cs sets i, ss[i], rfl, hT.same s3', s3' _ _ (hS.2 i _ _ hb hs), SqL.of (s3 _ _ hm2), ok _ (List.getElem_mem hi), hc, hrs, by rw [mks_len (by omega)]; omega, fun H4 s4 => ?_⟩
      rw [e1]
      refine ⟨_, rfl, rfl, _, rfl, ifF (iNe (by omega)) ?_⟩
      refine ⟨_, rfl, .inl ⟨rfl, _, SqL.of (s4 _ _ (s3 _ _ hm2))⟩, _, rfl, m, _, _, rfl, rfl, s4 _ _ (s3 _ _ hm2), small_int (by rw [len_niv, mks_len (by omega)]; omega), ?_⟩
      refine ⟨fun c o e => ?_, ?_, _, _, _, rfl⟩
      · rw [upd_ne (ne_of_none e hm)]; exact s4 _ _ (s3' _ _ e)
      · rw [mks_succ hS2]; exact upd_same
    · rintro σ H2 ⟨sm, hm2, u1, u2, u3, rfl⟩
      have hm2 : H2 m = some (.lst (niv (mks cs sets (ts.map V.ref).length))) := hm2
      have em : mks cs sets (ts.map V.ref).length = sets.map (ms cs) := by
        unfold mks; rw [lt, hR.1, List.take_length]
      rw [em] at hm2
      have hT2 := hT.same sm
      obtain ⟨dx, ct, rt, ts2, h1, hct, hrt, hts⟩ := id hT2
      refine ⟨_, rfl, m, rfl, ⟨_, SqL.of hm2⟩, fun D hD => lc_it walk_list (fun i H4 => Same H2 H4 ∧ ∃ us : List Addr, H4 D = some (.lst (us.map V.ref)) ∧ Lss .tup H4 us (sets.take i)) ⟨same_new hD, [], upd_same, Lss.nil⟩ (fun i H4 _ q => q.1.seq (SqL.of hm2)) ?_ ?_⟩
      · rintro i x H4 H5 hi ⟨s4, us, hd4, hl4⟩ ⟨rfl, hx⟩
        obtain ⟨n, hn, rfl⟩ := niv_get hx
        have hi2 : i < sets.length := by rw [len_niv, List.length_map] at hi; exact hi
        have hS2 : sets[i]? = some sets[i] := List.getElem?_eq_getElem hi2
        rw [List.getElem?_map, hS2] at hn
        cases hn
        have cn := (hR.cn nd _ (List.getElem_mem hi2)).1
        have hsl2 : sets.length ≤ 100 := by rw [← hR.1]; exact hsl
        have h1' := s4 _ _ h1
        refine ⟨rfl, _, rfl, _, rfl, _, _, _, _, _, rfl, h1', T.cl_Table, T.n_Table_columns, fldsT_columns _ _, ct, cs, sets[i], rfl, s4 _ _ hct, hc, fun t H6 s6 ht0 ht => ?_⟩
        rw [show canon cs sets[i] = sets[i] from cn] at ht
        have hd6 := s6 _ _ hd4
        refine ⟨_, hd6, small_int (by rw [List.length_map, hl4.len, List.length_take]; omega), ?_, us ++ [t], ?_, ?_⟩
        · intro c o e
          rw [upd_ne (ne_of_none e hD)]
          exact s6 _ _ (s4 _ _ e)
        · rw [List.map_append]; exact upd_same
        · rw [take_succ hS2]
          exact ((hl4.same s6).app ht).updT hd6 (fun xs z => nomatch z)
      · rintro H4 ⟨s4, us, hd4, hl4⟩
        rw [len_niv, List.length_map, List.take_length] at hl4
        exact k D us H4 (sm.trans s4) (none_of sm hD) hd4 hl4
theorem ok_followT (T : Txt P K mg A) : FnOk P w K mg base CX0 4 A.a_follow A.d_follow ["table", "steps"] (spFollow A.C_Table (SqT K)) := by
  have G_step_mask := ok_step (P := P) (w := w) (base := base) T
  have G_names_in := ok_namesIn (P := P) (w := w) (base := base) T
  refine T.F_follow.ok sc_follow (fun vs H Q E h => ?_) (fun cdv A' outer s H vs Q E hr h => ?_)
  · obtain ⟨p, l, cs, rs, sets, ts, ss, rfl, _⟩ := h
    rfl
  · obtain ⟨p, l, cs, rs, sets, ts, ss, rfl, hT, hL, hS, ok, hR, nd, hc, hrs, hsl, k⟩ := h
    refine ⟨_, (pss_cons (ps_set (i := 2) sc_follow.nd rfl (Or.inl rfl) (pe_lst pa_nil))
      (pss_cons (ps_for PassesOwn.never rfl (pi_enumT (by rfl) T.n_enumerate (pa_cons (pv 1) pa_nil)) (pg_tup (by rfl) (pgs_cons (pg_name (i := 3) sc_follow.nd rfl (Or.inl rfl)) (pgs_cons (pg_name (i := 4) sc_follow.nd rfl (Or.inl rfl)) pgs_nil)))
        (pss_cons (ps_set (i := 5) sc_follow.nd rfl (Or.inl rfl) (pe_call G_step_mask (hr.mono (by decide)) rfl T.mg_step_mask T.F_step_mask.kp T.b_step_mask .nil pass0 (pa_cons (pv 0) (pa_cons (pv 4) (pa_cons (pv 2) pa_nil)))))
      (pss_cons (ps_if (pt_cmpR op_eq (pv 5) pe_int (nomark _)) (pss_one ps_never) pss_nil)
      (pss_one (ps_expr (pe_bm PySem.F.plainAttrs_list PySem.F.slot_list_append PySem.F.type_list_append mt_append (pv 2) (pa_cons (pv 5) pa_nil)))))))
      (pss_one (ps_ret (pe_lc (own := [("mask", 5)]) (g := gName 5) (tt := tYes) rfl sc_follow.nd (pi_list (pv 2)) (blkOk_by (N := ["table", "steps", "masks", "index", "step", "mask"]) (sc := defScope s_follow) (by decide +kernel)) (fun _ _ _ _ _ => (pg_name (i := 5) sc_follow.nd rfl (Or.inl rfl))) (fun _ _ _ _ _ => pts_nil) (fun _ _ _ _ _ => (pe_call G_names_in (hr.mono (by decide)) rfl T.mg_names_in T.F_names_in.kp T.b_names_in .nil pass0 (pa_cons (pv 5) (pa_cons (show PE _ _ (tFld K _ "columns") from pe_fld (pv 0) rfl) pa_nil))))))))), ?_⟩
    have lt : (ts.map V.ref).length = ss.length := by rw [List.length_map, hS.1]
    refine ⟨by show 0 ≤ sizeLine; decide, fun m hm => ?_⟩
    have s0 := same_new (o := .lst []) hm
    refine ⟨_, rfl, l, _, rfl, s0.tup hL, for_it walk_enumT (fun i σ H2 => Same H H2 ∧ H2 m = some (.lst (niv (mks cs sets i))) ∧ ∃ u1 u2 u3 : Option V, σ = [some (.ref p), some (.ref l), some (.ref m), u1, u2, u3]) ⟨s0, upd_same, none, none, none, rfl⟩ (fun i σ H2 _ q => q.1.tup hL) ?_ ?_⟩
    · rintro i x σ H2 H3 hi ⟨sm, hm2, u1, u2, u3, rfl⟩ ⟨t, _, _, rfl, ht, rfl, ⟨⟩, hx⟩
      obtain ⟨b, hb, rfl⟩ := refs_get hx
      rw [lt] at hi
      have hs : ss[i]? = some ss[i] := List.getElem?_eq_getElem hi
      have hi2 : i < sets.length := by rw [← hR.1]; exact hi
      have hS2 : sets[i]? = some sets[i] := List.getElem?_eq_getElem hi2
      have s3 : Same H2 (upd H2 t (.tup [.int (i : Nat), .ref b])) := same_new ht
      have s3' := sm.trans s3
      obtain ⟨e1, e2⟩ := good_mask nd hR hs hS2 (ok _ (List.getElem_mem hi))
      refine ⟨t, _, rfl, SqT.of upd_same, rfl, _, _, rfl, _, _, rfl, rfl, ?_⟩
      refine ⟨_, rfl, _, rfl, _, rfl, p, b, m, cs, rs, mks cs sets i, ss[i], rfl, hT.same s3', s3' _ _ (hS.2 i _ _ hb hs), SqL.of (s3 _ _ hm2), ok _ (List.getElem_mem hi), hc, hrs, by rw [mks_len (by omega)]; omega, fun H4 s4 => ?_⟩
      rw [e1]
      refine ⟨_, rfl, rfl, _, rfl, ifF (iNe (by omega)) ?_⟩
      refine ⟨_, rfl, .inl ⟨rfl, _, SqL.of (s4 _ _ (s3 _ _ hm2))⟩, _, rfl, m, _, _, rfl, rfl, s4 _ _ (s3 _ _ hm2), small_int (by rw [len_niv, mks_len (by omega)]; omega), ?_⟩
      refine ⟨fun c o e => ?_, ?_, _, _, _, rfl⟩
      · rw [upd_ne (ne_of_none e hm)]; exact s4 _ _ (s3' _ _ e)
      · rw [mks_succ hS2]; exact upd_same
    · rintro σ H2 ⟨sm, hm2, u1, u2, u3, rfl⟩
      have hm2 : H2 m = some (.lst (niv (mks cs sets (ts.map V.ref).length))) := hm2
      have em : mks cs sets (ts.map V.ref).length = sets.map (ms cs) := by
        unfold mks; rw [lt, hR.1, List.take_length]
      rw [em] at hm2
      have hT2 := hT.same sm
      obtain ⟨dx, ct, rt, ts2, h1, hct, hrt, hts⟩ := id hT2
      refine ⟨_, rfl, m, rfl, ⟨_, SqL.of hm2⟩, fun D hD => lc_it walk_list (fun i H4 => Same H2 H4 ∧ ∃ us : List Addr, H4 D = some (.lst (us.map V.ref)) ∧ Lss .tup H4 us (sets.take i)) ⟨same_new hD, [], upd_same, Lss.nil⟩ (fun i H4 _ q => q.1.seq (SqL.of hm2)) ?_ ?_⟩
      · rintro i x H4 H5 hi ⟨s4, us, hd4, hl4⟩ ⟨rfl, hx⟩
        obtain ⟨n, hn, rfl⟩ := niv_get hx
        have hi2 : i < sets.length := by rw [len_niv, List.length_map] at hi; exact hi
        have hS2 : sets[i]? = some sets[i] := List.getElem?_eq_getElem hi2
        rw [List.getElem?_map, hS2] at hn
        cases hn
        have cn := (hR.cn nd _ (List.getElem_mem hi2)).1
        have hsl2 : sets.length ≤ 100 := by rw [← hR.1]; exact hsl
        have h1' := s4 _ _ h1
        refine ⟨rfl, _, rfl, _, rfl, _, _, _, _, _, rfl, h1', T.cl_Table, T.n_Table_columns, fldsT_columns _ _, ct, cs, sets[i], rfl, s4 _ _ hct, hc, fun t H6 s6 ht0 ht => ?_⟩
        rw [show canon cs sets[i] = sets[i] from cn] at ht
        have hd6 := s6 _ _ hd4
        refine ⟨_, hd6, small_int (by rw [List.length_map, hl4.len, List.length_take]; omega), ?_, us ++ [t], ?_, ?_⟩
        · intro c o e
          rw [upd_ne (ne_of_none e hD)]
          exact s6 _ _ (s4 _ _ e)
        · rw [List.map_append]; exact upd_same
        · rw [take_succ hS2]
          exact ((hl4.same s6).app ht).updT hd6 (fun xs z => nomatch z)
      · rintro H4 ⟨s4, us, hd4, hl4⟩
        rw [len_niv, List.length_map, List.take_length] at hl4
        exact k D us H4 (sm.trans s4) (none_of sm hD) hd4 hl4
def spFollowX (C B : Addr) (K : PySem.W.Frag) : Sp := fun vs H Q E => ∃ (p l : Addr) (cs : List Str) (rs sets : List (List Str)) (ts : List Addr) (ss rest : List St) (b : St), vs = [.ref p, .ref l] ∧ Tb C H p cs rs ∧ SqL K H l (ts.map V.ref) ∧ Sts H ts (ss ++ b :: rest) ∧ (∀ s ∈ ss, s.ok) ∧ b.ok ∧ Runs cs rs ss sets ∧ stepM cs rs sets b = none ∧
  cs.Nodup ∧ cs.length ≤ 12 ∧ rs.length ≤ 48 ∧ ss.length ≤ 100 ∧ ∀ (d : Addr) H', Same H H' → H' d = some (.xd [("index", .int (ss.length : Nat))]) → E (.ref B) (some d) H'
theorem ok_followX (T : Txt P K mg A) : FnOk P w K mg base (L2.CX P w) 4 A.a_follow A.d_follow ["table", "steps"] (spFollowX A.C_Table A.C_BadStep K) := by
  have G_step_mask := ok_step (P := P) (w := w) (base := base) T
  have G_names_in := ok_namesIn (P := P) (w := w) (base := base) T
  have G_BadStep_init := ok_BadStep (P := P) (w := w) (base := base) T
  refine funX T.F_follow sc_follow (fun vs H Q E h => ?_) (fun cdv A' outer s H vs Q E hr h => ?_)
  · obtain ⟨p, l, cs, rs, sets, ts, ss, rest, b, rfl, _⟩ := h
    rfl
  · obtain ⟨p, l, cs, rs, sets, ts, ss, rest, bad, rfl, hT, hL, hS, ok, okb, hR, hno, nd, hc, hrs, hsl, k⟩ := h
    refine ⟨_, (pss_cons (ps_set (i := 2) sc_follow.nd rfl (Or.inl rfl) (pe_lst pa_nil))
      (pss_cons (ps_for (passes_of rfl) rfl (pi_enum (by rfl) T.n_enumerate (pa_cons (pv 1) pa_nil)) (pg_tup (by rfl) (pgs_cons (pg_name (i := 3) sc_follow.nd rfl (Or.inl rfl)) (pgs_cons (pg_name (i := 4) sc_follow.nd rfl (Or.inl rfl)) pgs_nil)))
        (pss_cons (ps_set (i := 5) sc_follow.nd rfl (Or.inl rfl) (pe_call G_step_mask (hr.mono (by decide)) rfl T.mg_step_mask T.F_step_mask.kp T.b_step_mask .nil pass0 (pa_cons (pv 0) (pa_cons (pv 4) (pa_cons (pv 2) pa_nil)))))
      (pss_cons (ps_if (pt_cmpR op_eq (pv 5) pe_int (nomark _)) (pss_one (ps_raise rfl (takes_of rfl rfl rfl rfl) (pmk_oex T.SC_BadStep.ox T.ii_BadStep T.ti_BadStep G_BadStep_init (hr.mono (by decide)) T.b_BadStep_init .nil pass0 rfl T.mg_BadStep (pa_cons (pv 3) pa_nil)))) pss_nil)
      (pss_one (ps_expr (pe_bm PySem.F.plainAttrs_list PySem.F.slot_list_append PySem.F.type_list_append mt_append (pv 2) (pa_cons (pv 5) pa_nil)))))))
      (pss_one (ps_ret (pe_lc (own := [("mask", 5)]) (g := gName 5) (tt := tYes) rfl sc_follow.nd (pi_list (pv 2)) (blkOk_by (N := ["table", "steps", "masks", "index", "step", "mask"]) (sc := defScope s_follow) (by decide +kernel)) (fun _ _ _ _ _ => (pg_name (i := 5) sc_follow.nd rfl (Or.inl rfl))) (fun _ _ _ _ _ => pts_nil) (fun _ _ _ _ _ => (pe_call G_names_in (hr.mono (by decide)) rfl T.mg_names_in T.F_names_in.kp T.b_names_in .nil pass0 (pa_cons (pv 5) (pa_cons (show PE _ _ (tFld K _ "columns") from pe_fld (pv 0) rfl) pa_nil))))))))), ?_⟩
    have lt : (ts.map V.ref).length = ss.length + (rest.length + 1) := by rw [List.length_map, hS.1, List.length_append]; rfl
    refine ⟨by show 0 ≤ sizeLine; decide, fun m hm => ?_⟩
    have s0 := same_new (o := .lst []) hm
    refine ⟨_, rfl, l, _, rfl, s0.seq hL, for_it walk_enum (fun i σ H2 => i ≤ ss.length ∧ Same H H2 ∧ H2 m = some (.lst (niv (mks cs sets i))) ∧ ∃ u1 u2 u3 : Option V, σ = [some (.ref p), some (.ref l), some (.ref m), u1, u2, u3]) ⟨Nat.zero_le _, s0, upd_same, none, none, none, rfl⟩ (fun i σ H2 _ q => q.2.1.seq hL) ?_ ?_⟩
    · rintro i x σ H2 H3 hi ⟨hle, sm, hm2, u1, u2, u3, rfl⟩ ⟨t, _, _, rfl, ht, rfl, ⟨⟩, hx⟩
      obtain ⟨b, hb, rfl⟩ := refs_get hx
      have s3 : Same H2 (upd H2 t (.tup [.int (i : Nat), .ref b])) := same_new ht
      have s3' := sm.trans s3
      refine ⟨t, _, rfl, SqT.of upd_same, rfl, _, _, rfl, _, _, rfl, rfl, ?_⟩
      by_cases hi3 : i < ss.length
      · have hs : ss[i]? = some ss[i] := List.getElem?_eq_getElem hi3
        have hs' : (ss ++ bad :: rest)[i]? = some ss[i] := by rw [List.getElem?_append_left hi3]; exact hs
        have hi2 : i < sets.length := by rw [← hR.1]; exact hi3
        have hS2 : sets[i]? = some sets[i] := List.getElem?_eq_getElem hi2
        obtain ⟨e1, e2⟩ := good_mask nd hR hs hS2 (ok _ (List.getElem_mem hi3))
        refine ⟨_, rfl, _, rfl, _, rfl, p, b, m, cs, rs, mks cs sets i, ss[i], rfl, hT.same s3', s3' _ _ (hS.2 i _ _ hb hs'), SqL.of (s3 _ _ hm2), ok _ (List.getElem_mem hi3), hc, hrs, by rw [mks_len (by omega)]; omega, fun H4 s4 => ?_⟩
        rw [e1]
        refine ⟨_, rfl, rfl, _, rfl, ifF (iNe (by omega)) ?_⟩
        refine ⟨_, rfl, .inl ⟨rfl, _, SqL.of (s4 _ _ (s3 _ _ hm2))⟩, _, rfl, m, _, _, rfl, rfl, s4 _ _ (s3 _ _ hm2), small_int (by rw [len_niv, mks_len (by omega)]; omega), ?_⟩
        refine ⟨hi3, fun c o e => ?_, ?_, _, _, _, rfl⟩
        · rw [upd_ne (ne_of_none e hm)]; exact s4 _ _ (s3' _ _ e)
        · rw [mks_succ hS2]; exact upd_same
      · have ei : i = ss.length := by omega
        subst ei
        have hs' : (ss ++ bad :: rest)[ss.length]? = some bad := by rw [List.getElem?_append_right (Nat.le_refl _), Nat.sub_self]; rfl
        have em : mks cs sets ss.length = sets.map (ms cs) := by
          unfold mks; rw [hR.1, List.take_length]
        have e1 := step_eq (rs := rs) (fun S hS => (hR.cn nd S hS).1) okb
        rw [hno] at e1
        rw [em] at hm2
        refine ⟨_, rfl, _, rfl, _, rfl, p, b, m, cs, rs, sets.map (ms cs), bad, rfl, hT.same s3', s3' _ _ (hS.2 _ _ _ hb hs'), SqL.of (s3 _ _ hm2), okb, hc, hrs, by rw [List.length_map, ← hR.1]; omega, fun H4 s4 => ?_⟩
        rw [e1]
        refine ⟨_, rfl, rfl, _, rfl, ifT (iEq rfl) ?_⟩
        refine ⟨_, rfl, (by decide : 1 ≤ 1000), fun a ha => ⟨a, _, rfl, ⟨_, rfl, by rw [Int.natAbs_natCast]; omega⟩, upd_same, fun d hd hne => ⟨rfl, d, _, upd_same, by rw [upd_ne hne, upd_same], by rw [upd_ne hne] at hd; exact hd, ?_⟩⟩⟩
        rw [upd_ne hne] at hd
        exact k d _ ((s3'.trans s4).trans (exc_same ha hd)) upd_same
    · rintro σ H2 ⟨hle, _⟩
      rw [lt] at hle
      omega
end
end My
set_option maxRecDepth 100000
set_option maxHeartbeats 4000000
set_option exponentiation.threshold 10000
namespace My
open PySem L2
theorem mulW {i j : Int} (hi : i.natAbs < 2 ^ 9000) (hj : j.natAbs < 2 ^ 9000) : CMulW i j := wide_mul hi hj (by decide) (by decide) (by decide)
theorem atI_ok {xs : List Int} {j : Int} (h0 : 0 ≤ j) (h1 : j < xs.length) : ∃ v, v ∈ xs ∧ atI (xs.map V.int) j = some (V.int v) := by
  have hj : j.toNat < xs.length := by omega
  refine ⟨xs[j.toNat], List.getElem_mem hj, ?_⟩
  have e : (xs.map V.int)[j.toNat]? = some (V.int xs[j.toNat]) := by rw [List.getElem?_map, List.getElem?_eq_getElem hj]; rfl
  have := atI_nat e
  rw [show ((j.toNat : Nat) : Int) = j by omega] at this
  exact this
theorem len_map_int (xs : List Int) : (xs.map V.int).length = xs.length := List.length_map ..
/-- a pool of draws -/
def Pool (ns : List Int) : Prop := ∀ x ∈ ns, 0 ≤ x ∧ x < 27720
theorem Pool.nil : Pool [] := fun x h => nomatch h
theorem Pool.app {ns : List Int} {x : Int} (h : Pool ns) (h0 : 0 ≤ x) (h1 : x < 27720) : Pool (ns ++ [x]) := fun y hy => by
  rcases List.mem_append.mp hy with hy | hy
  · exact h y hy
  · cases List.mem_singleton.mp hy; exact ⟨h0, h1⟩
theorem upd_app {H : Hp} {l : Addr} {ps : List Int} {x : Int} : upd (upd H l (.lst (ps.map V.int))) l (.lst (ps.map V.int ++ [V.int x])) = upd H l (.lst ((ps ++ [x]).map V.int)) := by
  rw [upd_upd, List.map_append]
  rfl
theorem mod_sz {x m : Int} {k : Nat} (h : 0 < m) (hk : m.natAbs < 2 ^ k) : (x % m).natAbs < 2 ^ k := by
  have h1 := Int.emod_nonneg x (Int.ne_of_gt h)
  have h2 := Int.emod_lt_of_pos x h
  omega
def spCell (K : PySem.W.Frag) : Sp := fun vs H Q _ => ∃ (a : Addr) (ns : List Int) (k : Int), vs = [.ref a, .int k] ∧ SqL K H a (ns.map V.int) ∧ 0 ≤ k ∧ ∀ z, Q (.int z) H
def spPool (K : PySem.W.Frag) : Sp := fun vs H Q _ => ∃ (a : Addr) (ns : List Int) (k c : Int), vs = [.ref a, .int k, .int c] ∧ SqL K H a (ns.map V.int) ∧ 0 ≤ k ∧ 0 ≤ c ∧ c ≤ 1000 ∧
  ∀ p ps H', Same H H' → H' p = some (.lst (ps.map V.int)) → (ps.length : Int) = c → Pool ps → Q (.ref p) H'
section
variable {P : Program} {w : World} {K : PySem.W.Frag} {mg : Str → Option Value} {base : Heap} {A : Ad}
theorem ok_cell (T : Txt P K mg A) : FnOk P w K mg base CX0 1 A.a_law_cell A.d_law_cell ["script", "k"] (spCell K) := by
  refine T.F_law_cell.ok sc_law_cell (fun vs H Q E h => ?_) (fun cdv A' outer s H vs Q E hr h => ?_)
  · obtain ⟨a, ns, k, rfl, _⟩ := h
    rfl
  · obtain ⟨a, ns, i, rfl, hS, h0, k⟩ := h
    refine ⟨_, (pss_cons (ps_if (pt_cmpR op_lt (pv 1) (pe_callB call_len_seq (by rfl) T.n_len (by decide +kernel) (pa_cons (pv 0) pa_nil)) (nomark _)) (pss_one (ps_ret (pe_ix ix_list (pv 0) (pv 1) (fun _ _ => rfl)))) pss_nil)
      (pss_one (ps_ret pe_int))), ?_⟩
    refine ⟨_, rfl, _, rfl, _, _, rfl, .inl hS, _, _, rfl, rfl, _, rfl, ?_⟩
    by_cases hi : i < ((ns.map V.int).length : Int)
    · refine itY hi ?_
      obtain ⟨v, hv, e⟩ := atI_ok (xs := ns) h0 (by rw [len_map_int] at hi; exact hi)
      exact ⟨_, rfl, _, rfl, _, _, _, _, rfl, rfl, hS, e, k v⟩
    · refine itN hi ?_
      exact k 0
theorem ok_pool (T : Txt P K mg A) : FnOk P w K mg base CX0 2 A.a_law_pool A.d_law_pool ["script", "k", "count"] (spPool K) := by
  have G_law_cell : FnOk P w K mg base CX0 1 A.a_law_cell A.d_law_cell ["script", "k"] (spCell K) := ok_cell T
  refine T.F_law_pool.ok sc_law_pool (fun vs H Q E h => ?_) (fun cdv A' outer s H vs Q E hr h => ?_)
  · obtain ⟨a, ns, k, c, rfl, _⟩ := h
    rfl
  · obtain ⟨a, ns, i, c, rfl, hS, h0, hc0, hc, k⟩ := h
    refine ⟨_, (pss_cons (ps_set (i := 3) sc_law_pool.nd rfl (Or.inl rfl) (pe_callB call_abs (by rfl) T.n_abs (by decide +kernel) (pa_cons (pe_call G_law_cell (hr.mono (by decide)) rfl T.mg_law_cell T.F_law_cell.kp T.b_law_cell .nil pass0 (pa_cons (pv 0) (pa_cons (pv 1) pa_nil))) pa_nil)))
      (pss_cons (ps_set (i := 4) sc_law_pool.nd rfl (Or.inl rfl) (pe_lst pa_nil))
      (pss_cons (ps_if (pt_cmpR op_ge (pv 3) (pe_op op_pow pe_int pe_int) (nomark _)) (pss_cons (ps_set (i := 3) sc_law_pool.nd rfl (Or.inl rfl) (pe_op op_sub (pv 3) (pe_op op_pow pe_int pe_int)))
      (pss_cons (ps_for PassesOwn.never rfl (pi_range1 (by rfl) T.n_range (pa_cons (pv 2) pa_nil)) (pg_name (i := 5) sc_law_pool.nd rfl (Or.inl rfl))
        (pss_cons (ps_expr (pe_bm PySem.F.plainAttrs_list PySem.F.slot_list_append PySem.F.type_list_append mt_append (pv 4) (pa_cons (pe_op op_mod (pe_callTy call_int1 (by rfl) T.n_int (by decide +kernel) (pa_cons (pv 3) pa_nil)) pe_int) pa_nil)))
      (pss_one (ps_set (i := 3) sc_law_pool.nd rfl (Or.inl rfl) (pe_op op_fdiv (pv 3) pe_int)))))
      (pss_one (ps_ret (pv 4))))) pss_nil)
      (pss_cons (ps_for PassesOwn.never rfl (pi_range1 (by rfl) T.n_range (pa_cons (pv 2) pa_nil)) (pg_name (i := 5) sc_law_pool.nd rfl (Or.inl rfl))
        (pss_cons (ps_set (i := 6) sc_law_pool.nd rfl (Or.inl rfl) (pe_op op_mod (pe_callTy call_int1 (by rfl) T.n_int (by decide +kernel) (pa_cons (pe_op op_add (pe_op op_add (pe_op op_add (pe_op op_mul (pv 3) pe_int) (pe_op op_mul (pe_op op_add (pv 5) pe_int) pe_int)) (pe_op op_mul (pv 1) pe_int)) pe_int) pa_nil)) pe_int))
      (pss_cons (ps_set (i := 7) sc_law_pool.nd rfl (Or.inl rfl) (pe_op op_mod (pe_callTy call_int1 (by rfl) T.n_int (by decide +kernel) (pa_cons (pe_op op_add (pe_op op_add (pe_op op_mulW (pv 6) (pv 6)) (pe_op op_mul (pv 3) pe_int)) (pv 5)) pa_nil)) pe_int))
      (pss_cons (ps_set (i := 8) sc_law_pool.nd rfl (Or.inl rfl) (pe_op op_mod (pe_callTy call_int1 (by rfl) T.n_int (by decide +kernel) (pa_cons (pe_op op_add (pe_op op_mulW (pv 7) (pv 7)) (pv 6)) pa_nil)) pe_int))
      (pss_one (ps_expr (pe_bm PySem.F.plainAttrs_list PySem.F.slot_list_append PySem.F.type_list_append mt_append (pv 4) (pa_cons (pe_op op_mod (pe_callTy call_int1 (by rfl) T.n_int (by decide +kernel) (pa_cons (pe_op op_fdiv (pv 8) pe_int) pa_nil)) pe_int) pa_nil))))))))
      (pss_one (ps_ret (pv 4))))))), ?_⟩
    refine ⟨_, rfl, _, rfl, a, ns, i, rfl, hS, h0, fun z => ⟨_, rfl, ?_⟩⟩
    refine ⟨by show 0 ≤ sizeLine; decide, fun l hl => ?_⟩
    refine ⟨_, rfl, _, _, rfl, rfl, ⟨by decide, by decide, by decide⟩, _, _, rfl, rfl, _, rfl, ?_⟩
    have fin : ∀ ps : List Int, ps.length = c.toNat → Pool ps → Q (.ref l) (upd H l (.lst (ps.map V.int))) := fun ps h1 h2 => k l ps _ (same_new hl) upd_same (by omega) h2
    refine ite2 (fun hb => ?_) (fun hb => ?_)
    · refine ⟨_, rfl, _, _, rfl, rfl, ⟨by decide, by decide, by decide⟩, _, _, rfl, rfl, ?_⟩
      refine ⟨_, rfl, c, rfl, by omega, by omega, for_range (n := c.toNat) (fun j σ H2 => ∃ (v : Int) (ps : List Int) (u : Option V), σ = [some (.ref a), some (.int i), some (.int c), some (.int v), some (.ref l), u, none, none, none] ∧
        H2 = upd H l (.lst (ps.map V.int)) ∧ ps.length = j ∧ Pool ps) ⟨_, [], none, rfl, rfl, rfl, Pool.nil⟩ ?_ ?_⟩
      · rintro j σ H2 hj ⟨v, ps, u, rfl, rfl, hl2, hp⟩
        refine ⟨_, rfl, .inl ⟨rfl, _, SqL.of upd_same⟩, _, rfl, .inl ⟨_, rfl, ?_⟩⟩
        refine ⟨_, _, rfl, rfl, by show (0 : Int) < 27720; decide, l, _, _, rfl, rfl, upd_same, small_int (by rw [len_map_int]; omega), ?_⟩
        refine ⟨_, rfl, _, _, rfl, rfl, ⟨by decide, by decide⟩, ?_⟩
        refine ⟨_, ps ++ [v % 27720], _, rfl, ?_, by simp [hl2], hp.app (Int.emod_nonneg _ (by decide)) (Int.emod_lt_of_pos _ (by decide))⟩
        rw [upd_upd, List.map_append]
        rfl
      · rintro σ H2 ⟨v, ps, u, rfl, rfl, hl2, hp⟩
        exact ⟨_, rfl, fin ps hl2 hp⟩
    · refine ⟨_, rfl, c, rfl, by omega, by omega, for_range (n := c.toNat) (fun j σ H2 => ∃ (v : Int) (ps : List Int) (u u1 u2 u3 : Option V), σ = [some (.ref a), some (.int i), some (.int c), some (.int v), some (.ref l), u, u1, u2, u3] ∧
        H2 = upd H l (.lst (ps.map V.int)) ∧ ps.length = j ∧ Pool ps) ⟨_, [], none, none, none, none, rfl, rfl, rfl, Pool.nil⟩ ?_ ?_⟩
      · rintro j σ H2 hj ⟨v, ps, u, u1, u2, u3, rfl, rfl, hl2, hp⟩
        refine ⟨_, rfl, _, _, rfl, rfl, .inr (by decide), _, rfl, _, _, rfl, rfl, _, _, rfl, rfl, .inr (by decide), _, _, rfl, rfl, _, rfl, _, _, rfl, rfl, .inr (by decide), _, _, rfl, rfl, _, _, rfl, rfl, .inl ⟨_, rfl, _, _, rfl, rfl, by show (0 : Int) < 2147483647; decide, ?_⟩⟩
        refine ⟨_, rfl, _, rfl, _, _, rfl, rfl, mulW (mod_sz (by decide) (by decide)) (mod_sz (by decide) (by decide)), _, rfl, _, _, rfl, rfl, .inr (by decide), _, _, rfl, rfl, _, rfl, _, _, rfl, rfl, .inl ⟨_, rfl, _, _, rfl, rfl, by show (0 : Int) < 2147483629; decide, ?_⟩⟩
        refine ⟨_, rfl, _, rfl, _, _, rfl, rfl, mulW (mod_sz (by decide) (by decide)) (mod_sz (by decide) (by decide)), _, rfl, _, _, rfl, rfl, .inl ⟨_, rfl, _, _, rfl, rfl, by show (0 : Int) < 2147483587; decide, ?_⟩⟩
        refine ⟨_, rfl, .inl ⟨rfl, _, SqL.of upd_same⟩, _, rfl, _, _, rfl, rfl, ⟨by decide, by decide⟩, .inl ⟨_, rfl, ?_⟩⟩
        refine ⟨_, _, rfl, rfl, by show (0 : Int) < 27720; decide, l, _, _, rfl, rfl, upd_same, small_int (by rw [len_map_int]; omega), ?_⟩
        exact ⟨_, ps ++ [_], _, _, _, _, rfl, upd_app, by simp [hl2], hp.app (Int.emod_nonneg _ (by decide)) (Int.emod_lt_of_pos _ (by decide))⟩
      · rintro σ H2 ⟨v, ps, u, u1, u2, u3, rfl, rfl, hl2, hp⟩
        exact ⟨_, rfl, fin ps hl2 hp⟩
end
theorem cut_sv (os : List Str) (lo hi : Option Int) : ∃ ys : List Str, cutV (sv os) lo hi = sv ys ∧ ys.Sublist os := by
  unfold cutV
  rw [sv_drop, sv_take]
  exact ⟨_, rfl, (List.take_sublist _ _).trans (List.drop_sublist _ _)⟩
theorem at_sv {ss : List Str} {j : Int} (h0 : 0 ≤ j) (h1 : j < ss.length) : ∃ z, z ∈ ss ∧ atI (sv ss) j = some (V.str z) := by
  obtain ⟨n, rfl⟩ := Int.eq_ofNat_of_zero_le h0
  have hn : n < ss.length := by omega
  exact ⟨ss[n], List.getElem_mem hn, atI_nat (by rw [List.getElem?_map, List.getElem?_eq_getElem hn]; rfl)⟩
theorem sv_snoc' (l : List Str) (x : Str) : sv (l ++ [x]) = sv l ++ [V.str x] := List.map_append
theorem sv_app (a b : List Str) : sv a ++ sv b = sv (a ++ b) := List.map_append.symm
theorem nodup_le {l : List Str} : ∀ {m : List Str}, l.Nodup → (∀ x ∈ l, x ∈ m) → l.length ≤ m.length := by
  induction l with
  | nil => intro m _ _; exact Nat.zero_le _
  | cons a t ih =>
    intro m nd h
    rw [List.nodup_cons] at nd
    have ha := h a List.mem_cons_self
    have := ih (m := m.erase a) nd.2 fun x hx => (List.mem_erase_of_ne (fun e => nd.1 (by rw [← e]; exact hx))).mpr (h x (List.mem_cons_of_mem _ hx))
    rw [List.length_erase_of_mem ha] at this
    have : 0 < m.length := List.length_pos_of_mem ha
    rw [List.length_cons]
    omega
section
variable {P : Program} {w : World} {K : PySem.W.Frag} {mg : Str → Option Value} {base : Heap} {A : Ad}
/-! ### size -/
def szs : List Int := [3, 4, 5, 2, 4, 6, 3, 5, 1, 7, 0, 12, 4, 5, 3, 6, 8, 4, 5, 9, 10, 4, 7, 11]
def spSize : Sp := fun vs H Q _ => ∃ (d : Int), vs = [.int d, .int 12] ∧ ∀ (n : Nat) H', Same H H' → n ≤ 12 → Q (.int (n : Nat)) H'
theorem ok_size (T : Txt P K mg A) : FnOk P w K mg base CX0 1 A.a_law_size A.d_law_size ["draw", "most"] spSize := by
  refine T.F_law_size.ok sc_law_size (fun vs H Q E h => ?_) (fun cdv A' outer s H vs Q E hr h => ?_)
  · obtain ⟨d, rfl, _⟩ := h
    rfl
  · obtain ⟨d, rfl, k⟩ := h
    refine ⟨_, (pss_cons (ps_set (i := 2) sc_law_size.nd rfl (Or.inl rfl) (pe_lst (pa_cons pe_int (pa_cons pe_int (pa_cons pe_int (pa_cons pe_int (pa_cons pe_int (pa_cons pe_int (pa_cons pe_int (pa_cons pe_int (pa_cons pe_int (pa_cons pe_int (pa_cons pe_int (pa_cons pe_int (pa_cons pe_int (pa_cons pe_int (pa_cons pe_int (pa_cons pe_int (pa_cons pe_int (pa_cons pe_int (pa_cons pe_int (pa_cons pe_int (pa_cons pe_int (pa_cons pe_int (pa_cons pe_int (pa_cons pe_int pa_nil))))))))))))))))))))))))))
      (pss_one (ps_ret (pe_callB (call_min2 rfl) (by rfl) T.n_min (by decide +kernel) (pa_cons (pv 1) (pa_cons (pe_ix ix_list (pv 2) (pe_op op_mod (pe_callTy call_int1 (by rfl) T.n_int (by decide +kernel) (pa_cons (pv 0) pa_nil)) pe_int) (fun _ _ => rfl)) pa_nil)))))), ?_⟩
    refine ⟨by show 24 ≤ sizeLine; decide, fun l hl => ?_⟩
    have h0 := Int.emod_nonneg d (show (24 : Int) ≠ 0 by decide)
    have h1 := Int.emod_lt_of_pos d (show (0 : Int) < 24 by decide)
    obtain ⟨v, hv, e⟩ := atI_ok (xs := szs) (j := d % 24) h0 (by show _ < (24 : Int); exact h1)
    have hb : ∀ v ∈ szs, 0 ≤ v ∧ v ≤ 12 := by decide
    have hv2 := hb v hv
    refine ⟨_, rfl, _, rfl, _, rfl, .inl ⟨_, rfl, _, _, rfl, rfl, by show (0 : Int) < 24; decide, l, _, _, _, rfl, rfl, SqL.of upd_same, e, _, _, rfl, ?_⟩⟩
    have := k v.toNat _ (same_new (o := .lst (szs.map V.int)) hl) (by omega)
    rw [show ((v.toNat : Nat) : Int) = v by omega] at this
    rw [show (if v < 12 then v else 12) = v by split <;> omega]
    exact this
/-! ### an order -/
def spOrder (K : PySem.W.Frag) : Sp := fun vs H Q _ => ∃ (n p : Addr) (ns : List Str) (ps : List Int), vs = [.ref n, .ref p, .int 2] ∧ SqL K H n (sv ns) ∧ SqL K H p (ps.map V.int) ∧ ns.length ≤ 12 ∧ ps.length = 60 ∧ ∀ a os H', Same H H' → H' a = some (.lst (sv os)) → os.Perm ns → Q (.ref a) H'
theorem perm_pick {α : Type} {l : List α} {i : Nat} {x : α} (h : l[i]? = some x) : (x :: (l.take i ++ l.drop (i + 1))).Perm l := by
  have hi := (List.getElem?_eq_some_iff.mp h).1
  have e : l = l.take i ++ x :: l.drop (i + 1) := by
    conv => lhs; rw [← List.take_append_drop i l]
    rw [List.drop_eq_getElem_cons hi]
    rw [List.getElem?_eq_getElem hi] at h
    cases h; rfl
  conv => rhs; rw [e]
  exact List.perm_middle.symm
theorem ok_order (T : Txt P K mg A) : FnOk P w K mg base CX0 1 A.a_law_order A.d_law_order ["names", "pool", "start"] (spOrder K) := by
  refine T.F_law_order.ok sc_law_order (fun vs H Q E h => ?_) (fun cdv A' outer s H vs Q E hr h => ?_)
  · obtain ⟨n, p, ns, ps, rfl, _⟩ := h
    rfl
  · obtain ⟨n, p, ns, ps, rfl, hN, hP, hnl, hpl, k⟩ := h
    refine ⟨_, (pss_cons (ps_set (i := 3) sc_law_order.nd rfl (Or.inl rfl) (pe_callTy call_list_of (by rfl) T.n_list (by decide +kernel) (pa_cons (pv 0) pa_nil)))
      (pss_cons (ps_set (i := 4) sc_law_order.nd rfl (Or.inl rfl) (pe_lst pa_nil))
      (pss_cons (ps_for PassesOwn.never rfl (pi_range1 (by rfl) T.n_range (pa_cons (pe_callB call_len_seq (by rfl) T.n_len (by decide +kernel) (pa_cons (pv 0) pa_nil)) pa_nil)) (pg_name (i := 5) sc_law_order.nd rfl (Or.inl rfl))
        (pss_cons (ps_set (i := 6) sc_law_order.nd rfl (Or.inl rfl) (pe_op op_mod (pe_callTy call_int1 (by rfl) T.n_int (by decide +kernel) (pa_cons (pe_ix ix_list (pv 1) (pe_op op_add (pv 2) (pv 5)) (fun _ _ => rfl)) pa_nil)) (pe_callB call_len_seq (by rfl) T.n_len (by decide +kernel) (pa_cons (pv 3) pa_nil))))
      (pss_cons (ps_expr (pe_bm PySem.F.plainAttrs_list PySem.F.slot_list_append PySem.F.type_list_append mt_append (pv 4) (pa_cons (pe_ix ix_list (pv 3) (pv 6) (fun _ _ => rfl)) pa_nil)))
      (pss_one (ps_set (i := 3) sc_law_order.nd rfl (Or.inl rfl) (pe_op op_cat (pe_slice sl_list (pv 3) po_none (po_some (pv 6))) (pe_slice sl_list (pv 3) (po_some (pe_op op_add (pv 6) pe_int)) po_none)))))))
      (pss_one (ps_ret (pv 4)))))), ?_⟩
    refine ⟨_, rfl, n, _, rfl, .inl hN, fun l0 hl0 => ?_⟩
    have s1 := same_new (o := .lst (sv ns)) hl0
    refine ⟨by show 0 ≤ sizeLine; decide, fun o ho => ?_⟩
    have s2 := s1.trans (same_new (o := .lst []) ho)
    have ho' : H o = none := none_of s1 ho
    have hl1 : upd (upd H l0 (.lst (sv ns))) o (.lst []) l0 = some (.lst (sv ns)) := by rw [upd_ne (ne_of_none upd_same ho)]; exact upd_same
    refine ⟨_, rfl, n, _, rfl, .inl (s2.seq hN), _, rfl, by rw [len_sv]; omega, by rw [len_sv]; omega, ?_⟩
    have e1 : (((sv ns).length : Nat) : Int).toNat = ns.length := by rw [len_sv, Int.toNat_natCast]
    refine for_range (n := (((sv ns).length : Nat) : Int).toNat) (fun i σ H2 => Same H H2 ∧ ∃ (l : Addr) (ls os : List Str) (u1 u2 : Option V), σ = [some (.ref n), some (.ref p), some (.int 2), some (.ref l), some (.ref o), u1, u2] ∧ H l = none ∧ l ≠ o ∧ H2 l = some (.lst (sv ls)) ∧ H2 o = some (.lst (sv os)) ∧ (os ++ ls).Perm ns ∧ os.length = i)
      ⟨s2, l0, ns, [], none, none, rfl, hl0, ne_of_none upd_same ho, hl1, upd_same, .refl _, rfl⟩ ?_ ?_
    · rintro i σ H2 hi ⟨sm, l, ls, os, u1, u2, rfl, hl, hlo, h2, h3, hp, hi2⟩
      rw [e1] at hi
      have hlen := hp.length_eq
      rw [List.length_append] at hlen
      have hls : 0 < ls.length := by omega
      obtain ⟨v, hv, e⟩ := atI_ok (xs := ps) (j := (2 : Int) + (0 + (i : Int))) (by omega) (by omega)
      have hd : (0 : Int) < ((sv ls).length : Nat) := by rw [len_sv]; omega
      have m0 := Int.emod_nonneg v (Int.ne_of_gt hd)
      have m1 := Int.emod_lt_of_pos v hd
      refine ⟨_, rfl, _, rfl, _, rfl, _, _, rfl, rfl, p, _, _, _, rfl, rfl, sm.seq hP, e, .inl ⟨_, rfl, _, rfl, l, _, rfl, .inl (SqL.of h2), _, _, rfl, rfl, hd, ?_⟩⟩
      obtain ⟨j, hj⟩ := Int.eq_ofNat_of_zero_le m0
      rw [hj] at m1
      rw [len_sv] at m1
      have hj2 : j < ls.length := by omega
      have hz : ls[j]? = some ls[j] := List.getElem?_eq_getElem hj2
      have ej : atI (sv ls) (j : Int) = some (V.str ls[j]) := atI_nat (by rw [List.getElem?_map, hz]; rfl)
      refine ⟨_, rfl, .inl ⟨rfl, _, SqL.of h3⟩, _, rfl, _, rfl, l, _, _, _, rfl, rfl, SqL.of h2, by rw [hj]; exact ej, o, _, _, rfl, rfl, h3, small_int (by rw [len_sv]; omega), ?_⟩
      have hlo2 : upd H2 o (.lst (sv os ++ [V.str ls[j]])) l = some (.lst (sv ls)) := by rw [upd_ne hlo]; exact h2
      refine ⟨_, rfl, _, rfl, _, rfl, l, _, rfl, SqL.of hlo2, fun a ha => ?_⟩
      have hla : l ≠ a := ne_of_none hlo2 ha
      refine ⟨_, rfl, _, rfl, _, _, rfl, rfl, _, rfl, l, _, rfl, SqL.of (by rw [upd_ne hla]; exact hlo2), fun b hb => ?_⟩
      have ha2 : a ≠ b := ne_of_none upd_same hb
      refine ⟨a, b, _, _, rfl, rfl, by rw [upd_ne ha2]; exact upd_same, upd_same, ?_, fun c hc => ?_⟩
      · rw [hj, show ((j : Int) + 1) = ((j + 1 : Nat) : Int) by omega, cut_take (by rw [len_sv]; omega), cut_drop (by rw [len_sv]; omega)]
        have := len_sv ls
        refine Nat.le_trans (m := 24) ?_ (by decide)
        rw [List.length_take, List.length_drop]; omega
      · rw [hj, cut_take (by rw [len_sv]; omega), sv_take] at hb
        rw [hj, show ((j : Int) + 1) = ((j + 1 : Nat) : Int) by omega] at hc ⊢
        rw [cut_take (by rw [len_sv]; omega), cut_drop (by rw [len_sv]; omega), sv_take, sv_drop] at hc ⊢
        rw [sv_app]
        have ob : o ≠ b := ne_of_none (show upd (upd H2 o _) a _ o = some _ by rw [upd_ne (ne_of_none upd_same ha)]; exact upd_same) hb
        have oa : o ≠ a := ne_of_none upd_same ha
        have oc : o ≠ c := ne_of_none (show upd (upd (upd H2 o _) a _) b _ o = some _ by rw [upd_ne ob, upd_ne oa]; exact upd_same) hc
        have sX : ∀ (x : Addr) (u : HO), H x = some u → upd (upd (upd H2 o (.lst (sv os ++ [V.str ls[j]]))) a (.lst (sv (ls.take j)))) b (.lst (sv (ls.drop (j + 1)))) x = some u := fun x u hx => by
          have e2 := sm x u hx
          have e3 : upd H2 o (.lst (sv os ++ [V.str ls[j]])) x = some u := by
            rw [upd_ne (fun z => by rw [z, ho'] at hx; cases hx)]; exact e2
          have e4 : upd (upd H2 o (.lst (sv os ++ [V.str ls[j]]))) a (.lst (sv (ls.take j))) x = some u := by rw [upd_ne (ne_of_none e3 ha)]; exact e3
          rw [upd_ne (ne_of_none e4 hb)]; exact e4
        refine ⟨fun x u hx => ?_, c, ls.take j ++ ls.drop (j + 1), os ++ [ls[j]], _, _, rfl, ?_, oc.symm, upd_same, ?_, ?_, ?_⟩
        · rw [upd_ne (ne_of_none (sX x u hx) hc)]; exact sX x u hx
        · cases e : H c with
          | none => rfl
          | some u => rw [sX _ _ e] at hc; cases hc
        · rw [upd_ne oc, upd_ne ob, upd_ne oa, upd_same, sv_snoc']
        · have := perm_pick hz
          rw [List.append_assoc, List.singleton_append]
          exact ((this.append_left os)).trans hp
        · rw [List.length_append, hi2]; rfl
    · rintro σ H2 ⟨sm, l, ls, os, u1, u2, rfl, hl, hlo, h2, h3, hp, hi2⟩
      rw [e1] at hi2
      have hlen := hp.length_eq
      rw [List.length_append] at hlen
      have : ls = [] := List.length_eq_zero_iff.mp (by omega)
      rw [this, List.append_nil] at hp
      exact ⟨_, rfl, k o os H2 sm h3 hp⟩
end
end My
set_option maxRecDepth 100000
set_option maxHeartbeats 4000000
namespace My
open PySem L2
theorem cut_takeG {xs : List V} {k : Nat} : cutV xs none (some (k : Int)) = xs.take k := by
  unfold cutV
  rw [HT.sIx_none, HT.sIx_nat]
  simp
theorem cut_dropG {xs : List V} {k : Nat} : cutV xs (some (k : Int)) none = xs.drop k := by
  unfold cutV
  rw [HT.sIx_none, HT.sIx_nat]
  rw [List.take_of_length_le (by rw [List.length_drop]; omega)]
  rcases Nat.le_total k xs.length with h | h
  · rw [Nat.min_eq_left h]
  · rw [Nat.min_eq_right h, List.drop_eq_nil_of_le (Nat.le_refl _), List.drop_eq_nil_of_le h]
theorem rot_perm {α : Type} (l : List α) (c : Nat) : (l.drop c ++ l.take c).Perm l := by
  have := List.perm_append_comm (l₁ := l.drop c) (l₂ := l.take c)
  rw [List.take_append_drop] at this
  exact this
/-- a row of the columns cs -/
def RowOk (cs x : List Str) : Prop := x.Nodup ∧ ∀ y ∈ x, y ∈ cs
theorem RowOk.len {cs x : List Str} (h : RowOk cs x) : x.length ≤ cs.length := nodup_le h.1 h.2
theorem RowOk.stray {cs x : List Str} (h : RowOk cs x) : stray cs x = none := stray_none_iff.mpr ⟨h.2, h.1⟩
section
variable {P : Program} {w : World} {K : PySem.W.Frag} {mg : Str → Option Value} {base : Heap} {A : Ad}
def spSorted (K : PySem.W.Frag) : Sp := fun vs H Q _ => ∃ (n r : Addr) (cs x : List Str), vs = [.ref n, .ref r] ∧ SqL K H n (sv cs) ∧ SqL K H r (sv x) ∧ cs.length ≤ 1000 ∧ ∀ a H', Same H H' → H a = none → H' a = some (.lst (sv (canon cs x))) → Q (.ref a) H'
theorem ok_sorted (T : Txt P K mg A) : FnOk P w K mg base CX0 1 A.a_law_sorted A.d_law_sorted ["names", "row"] (spSorted K) := by
  refine T.F_law_sorted.ok sc_law_sorted (fun vs H Q E h => ?_) (fun cdv A' outer s H vs Q E hr h => ?_)
  · obtain ⟨n, r, cs, x, rfl, _⟩ := h
    rfl
  · obtain ⟨n, l, cs, r, rfl, hN, h2, hl, k⟩ := h
    refine ⟨_, (pss_one (ps_ret (pe_lc (own := [("name", 2)]) (g := gName 2) (tt := _) rfl sc_law_sorted.nd (pi_list (pv 0)) (blkOk_by (N := ["names", "row", "name"]) (sc := defScope s_law_sorted) (by decide +kernel)) (fun _ _ _ _ _ => (pg_name (i := 2) sc_law_sorted.nd rfl (Or.inl rfl))) (fun _ _ _ _ _ => (pts_one (pt_cmpR (show OpR _ _ (rIn K false) from op_in_seq) (pv 2) (pv 1) (by with_unfolding_all rfl)))) (fun _ _ _ _ _ => (pv 2))))), ?_⟩
    have stepT : ∀ i z, cs[i]? = some z → z ∈ r → sv (canon (cs.take (i + 1)) r) = sv (canon (cs.take i) r) ++ [V.str z] := fun i z hz hm => by
      rw [take_succ hz, canon_T hm]; exact List.map_append
    have stepF : ∀ i z, cs[i]? = some z → z ∉ r → sv (canon (cs.take (i + 1)) r) = sv (canon (cs.take i) r) := fun i z hz hm => by
      rw [take_succ hz, canon_F hm]
    refine ⟨_, rfl, n, rfl, ⟨_, hN⟩, fun D hD => lc_it walk_list (PvS H D fun i => sv (canon (cs.take i) r)) (pv0 hD rfl) (fun i H2 _ q => q.1.seq hN) ?_ ?_⟩
    · rintro i x H3 H4 hi q ⟨rfl, hx⟩
      obtain ⟨z, hz, rfl⟩ := sv_get hx
      refine ⟨rfl, _, rfl, _, rfl, l, _, rfl, .inl (q.1.seq h2), rfl, flat_sv _, _, rfl, ?_⟩
      rw [if_neg Bool.false_ne_true, inV_str]
      have hlen : (sv (canon (cs.take i) r)).length ≤ 1000000 := by
        have := List.length_filter_le (fun x => decide (x ∈ r)) (cs.take i)
        rw [List.length_take] at this
        rw [len_sv]; unfold canon; omega
      by_cases hm : z ∈ r
      · exact ifT (decide_eq_true hm) ⟨_, rfl, q.push hD (stepT i z hz hm) hlen⟩
      · exact ifF (decide_eq_false hm) (q.skip (stepF i z hz hm))
    · rintro H3 ⟨sm, h3⟩
      have h3 : H3 D = some (.lst (sv (canon (cs.take (sv cs).length) r))) := h3
      rw [len_sv, List.take_length] at h3
      exact k D H3 sm hD h3
def spRow (K : PySem.W.Frag) : Sp := fun vs H Q _ => ∃ (n h : Addr) (cs hs : List Str) (d : Int) (free : Bool), vs = [.ref n, .ref h, .int d, .bl free] ∧ SqL K H n (sv cs) ∧ SqL K H h (sv hs) ∧ cs.Nodup ∧ cs.length ≤ 12 ∧ hs.Perm cs ∧
  ∀ r ms H', Same H H' → H r = none → H' r = some (.lst (sv ms)) → RowOk cs ms → Q (.ref r) H'
theorem ok_row (T : Txt P K mg A) : FnOk P w K mg base CX0 1 A.a_law_row A.d_law_row ["names", "hidden", "draw", "free"] (spRow K) := by
  refine T.F_law_row.ok sc_law_row (fun vs H Q E h => ?_) (fun cdv A' outer s H vs Q E hr h => ?_)
  · obtain ⟨n, h, cs, hs, d, free, rfl, _⟩ := h
    rfl
  · obtain ⟨n, h, cs, hs, d, free, rfl, hN, hH, nd, hcl, hp, k⟩ := h
    refine ⟨_, (pss_cons (ps_set (i := 4) sc_law_row.nd rfl (Or.inl rfl) (pe_lst pa_nil))
      (pss_cons (ps_if (pt_val (pv 3)) (pss_cons (ps_for PassesOwn.never rfl (pi_list (pv 0)) (pg_name (i := 5) sc_law_row.nd rfl (Or.inl rfl))
        (pss_cons (ps_if (pt_cmpR op_eq (pe_op op_mod (pe_callTy call_int1 (by rfl) T.n_int (by decide +kernel) (pa_cons (pv 2) pa_nil)) pe_int) pe_int (nomark _)) (pss_one (ps_expr (pe_bm PySem.F.plainAttrs_list PySem.F.slot_list_append PySem.F.type_list_append mt_append (pv 4) (pa_cons (pv 5) pa_nil)))) pss_nil)
      (pss_one (ps_set (i := 2) sc_law_row.nd rfl (Or.inl rfl) (pe_op op_fdiv (pv 2) pe_int)))))
      (pss_one (ps_ret (pv 4)))) pss_nil)
      (pss_cons (ps_set (i := 6) sc_law_row.nd rfl (Or.inl rfl) (pe_op op_add (pe_callB call_len_seq (by rfl) T.n_len (by decide +kernel) (pa_cons (pv 1) pa_nil)) pe_int))
      (pss_cons (ps_set (i := 7) sc_law_row.nd rfl (Or.inl rfl) (pe_op op_mod (pe_callTy call_int1 (by rfl) T.n_int (by decide +kernel) (pa_cons (pv 2) pa_nil)) (pv 6)))
      (pss_cons (ps_set (i := 8) sc_law_row.nd rfl (Or.inl rfl) (pe_op op_mod (pe_callTy call_int1 (by rfl) T.n_int (by decide +kernel) (pa_cons (pe_op op_fdiv (pv 2) pe_int) pa_nil)) (pv 6)))
      (pss_cons (ps_set (i := 4) sc_law_row.nd rfl (Or.inl rfl) (pe_slice sl_list (pv 1) (po_some (pv 7)) (po_some (pe_op op_add (pv 7) (pv 8)))))
      (pss_cons (ps_set (i := 9) sc_law_row.nd rfl (Or.inl rfl) (pe_op op_mod (pe_callTy call_int1 (by rfl) T.n_int (by decide +kernel) (pa_cons (pe_op op_fdiv (pv 2) pe_int) pa_nil)) (pv 6)))
      (pss_one (ps_ret (pe_op op_cat (pe_slice sl_list (pv 4) (po_some (pv 9)) po_none) (pe_slice sl_list (pv 4) po_none (po_some (pv 9))))))))))))), ?_⟩
    have hhl : hs.length ≤ 12 := by rw [hp.length_eq]; exact hcl
    refine ⟨by show 0 ≤ sizeLine; decide, fun a ha => ?_⟩
    have sa := same_new (o := .lst []) ha
    refine ⟨_, rfl, _, rfl, ?_⟩
    cases free with
    | true =>
      refine ifT rfl ?_
      refine ⟨_, rfl, n, rfl, ⟨_, sa.seq hN⟩, for_it walk_list (fun j σ H4 => Same H H4 ∧ ∃ (ys : List Str) (lf : Int) (u u1 u2 u3 u4 : Option V), σ = [some (.ref n), some (.ref h), some (.int lf), some (.bl true), some (.ref a), u, u1, u2, u3, u4] ∧ H4 a = some (.lst (sv ys)) ∧ ys.Sublist (cs.take j))
        ⟨sa, [], d, none, none, none, none, none, rfl, upd_same, List.nil_sublist _⟩ (fun j σ H4 _ q => q.1.seq hN) ?_ ?_⟩
      · rintro j x σ H40 H4 hi ⟨s4, ys, lf, u, u1, u2, u3, u4, rfl, h4, hys⟩ ⟨rfl, hx⟩
        obtain ⟨z, hz, rfl⟩ := sv_get hx
        have hyl := hys.length_le
        rw [List.length_take] at hyl
        refine ⟨_, rfl, .inl ⟨_, rfl, _, _, rfl, rfl, by show (0 : Int) < 2; decide, rfl, _, rfl, ite2 (fun hb => ?_) (fun hb => ?_)⟩⟩
        · refine ⟨_, rfl, .inl ⟨rfl, _, SqL.of h4⟩, _, rfl, a, _, _, rfl, rfl, h4, small_int (by rw [len_sv]; omega), ?_⟩
          refine ⟨_, rfl, _, _, rfl, rfl, ⟨by decide, by decide⟩, fun c' o' e => ?_, ys ++ [z], _, _, _, _, _, _, rfl, ?_, ?_⟩
          · rw [upd_ne (ne_of_none e ha)]; exact s4 _ _ e
          · rw [sv_snoc']; exact upd_same
          · rw [take_succ hz]; exact hys.append (List.Sublist.refl _)
        · refine ⟨_, rfl, _, _, rfl, rfl, ⟨by decide, by decide⟩, s4, ys, _, _, _, _, _, _, rfl, h4, ?_⟩
          rw [take_succ hz]; exact hys.trans (List.sublist_append_left _ _)
      rintro σ H4 ⟨s4, ys, lf, u, u1, u2, u3, u4, rfl, h4, hys⟩
      rw [len_sv, List.take_length] at hys
      exact ⟨_, rfl, k a ys H4 s4 ha h4 ⟨hys.nodup nd, fun y hy => hys.subset hy⟩⟩
    | false =>
      refine ifF rfl ?_
      have lp : (0 : Int) < ((sv hs).length : Int) + 1 := by omega
      refine ⟨_, rfl, h, _, rfl, .inl (sa.seq hH), _, _, rfl, rfl, ?_⟩
      refine ⟨_, rfl, .inl ⟨_, rfl, _, rfl, _, _, rfl, rfl, lp, ?_⟩⟩
      refine ⟨_, rfl, _, _, rfl, rfl, ⟨by decide, by decide⟩, .inl ⟨_, rfl, _, rfl, _, _, rfl, rfl, lp, ?_⟩⟩
      obtain ⟨zs, e, hzs⟩ := cut_sv hs (some (d % (((sv hs).length : Int) + 1))) (some (d % (((sv hs).length : Int) + 1) + d / 13 % (((sv hs).length : Int) + 1)))
      refine ⟨_, rfl, _, rfl, _, rfl, _, rfl, _, rfl, _, _, rfl, rfl, _, rfl, h, _, rfl, sa.seq hH, fun b hb => ?_⟩
      have s2 := sa.trans (same_new (o := .lst (cutV (sv hs) (some (d % (((sv hs).length : Int) + 1))) (some (d % (((sv hs).length : Int) + 1) + d / 13 % (((sv hs).length : Int) + 1))))) hb)
      rw [e] at s2
      refine ⟨_, rfl, _, _, rfl, rfl, ⟨by decide, by decide⟩, .inl ⟨_, rfl, _, rfl, _, _, rfl, rfl, lp, ?_⟩⟩
      obtain ⟨c, hc⟩ := Int.eq_ofNat_of_zero_le (Int.emod_nonneg (d / 169) (Int.ne_of_gt lp))
      have hb2 : upd (upd H a (.lst [])) b (.lst (sv zs)) b = some (.lst (sv zs)) := upd_same
      refine ⟨_, rfl, _, rfl, _, rfl, b, _, rfl, SqL.of (by rw [e]; exact hb2), fun p hp2 => ?_⟩
      have hbp : b ≠ p := ne_of_none upd_same hp2
      rw [e] at hp2
      have s3 := s2.trans (same_new (o := .lst (sv (zs.drop c))) hp2)
      refine ⟨_, rfl, _, rfl, _, rfl, b, _, rfl, SqL.of (by rw [upd_ne hbp, e]; exact hb2), fun q hq => ?_⟩
      have hpq : p ≠ q := ne_of_none upd_same hq
      rw [e, hc, cut_dropG, sv_drop] at hq
      have s4 := s3.trans (same_new (o := .lst (sv (zs.take c))) hq)
      refine ⟨p, q, _, _, rfl, rfl, by rw [upd_ne hpq]; exact upd_same, upd_same, ?_, fun t ht => ?_⟩
      · rw [hc, cut_dropG, cut_takeG]
        have := hzs.length_le
        refine Nat.le_trans (m := 24) ?_ (by decide)
        rw [List.length_drop, List.length_take, len_sv]; omega
      · rw [e, hc, cut_dropG, cut_takeG, sv_drop, sv_take] at ht ⊢
        have s5 := s4.trans (same_new (o := .lst (sv (zs.drop c ++ zs.take c))) ht)
        rw [sv_app]
        have pr := rot_perm zs c
        refine k t _ _ s5 (none_of s4 ht) upd_same ⟨pr.nodup_iff.mpr (hzs.nodup (hp.nodup_iff.mpr nd)), fun y hy => hp.mem_iff.mp (hzs.subset (pr.mem_iff.mp hy))⟩
end
end My
set_option maxRecDepth 100000
set_option maxHeartbeats 4000000
namespace My
open PySem L2
/-- rows at ts, none of them the list D itself -/
def Rows (H : Hp) (D : Addr) (ts : List Addr) (cs : List Str) (rs : List (List Str)) : Prop := Lss .lst H ts rs ∧ (∀ t ∈ ts, t ≠ D) ∧ ∀ x ∈ rs, RowOk cs x
theorem Rows.push {H H' : Hp} {D t : Addr} {ts : List Addr} {cs ms : List Str} {rs : List (List Str)} {o : HO} (h : Rows H D ts cs rs) (s : Same H H') (ht : H' t = some (.lst (sv ms))) (hD : t ≠ D) (ok : RowOk cs ms) : Rows (upd H' D o) D (ts ++ [t]) cs (rs ++ [ms]) := by
  have h1 := (h.1.same s).app ht
  have hn : ∀ u ∈ ts ++ [t], u ≠ D := fun u hu => (List.mem_append.mp hu).elim (h.2.1 u) fun hu => by rw [List.mem_singleton.mp hu]; exact hD
  refine ⟨⟨h1.len, fun i u x a b => ?_⟩, hn, fun x hx => (List.mem_append.mp hx).elim (h.2.2 x) fun hx => by rw [List.mem_singleton.mp hx]; exact ok⟩
  rw [upd_ne (hn u (List.mem_of_getElem? a))]
  exact h1.at_ i u x a b
section
variable {P : Program} {w : World} {K : PySem.W.Frag} {mg : Str → Option Value} {base : Heap} {A : Ad}
def spRows (K : PySem.W.Frag) : Sp := fun vs H Q _ => ∃ (n h p : Addr) (cs hs : List Str) (ps : List Int) (c m : Int), vs = [.ref n, .ref h, .ref p, .int 14, .int c, .int m] ∧ SqL K H n (sv cs) ∧ SqL K H h (sv hs) ∧ SqL K H p (ps.map V.int) ∧ ps.length = 60 ∧ 0 ≤ c ∧ c ≤ 6 ∧ cs.Nodup ∧ cs.length ≤ 12 ∧ hs.Perm cs ∧
  ∀ D ts rs H', Same H H' → H D = none → H' D = some (.lst (ts.map V.ref)) → Rows H' D ts cs rs → (rs.length : Int) = c → Q (.ref D) H'
theorem ok_rows (T : Txt P K mg A) : FnOk P w K mg base CX0 2 A.a_law_rows A.d_law_rows ["names", "hidden", "pool", "start", "count", "mode"] (spRows K) := by
  have G_law_row := ok_row (P := P) (w := w) (base := base) T
  refine T.F_law_rows.ok sc_law_rows (fun vs H Q E h => ?_) (fun cdv A' outer s H vs Q E hr h => ?_)
  · obtain ⟨n, h, p, cs, hs, ps, c, m, rfl, _⟩ := h
    rfl
  · obtain ⟨n, h, p, cs, hs, ps, c, m, rfl, hN, hH, hP, hpl, c0, c6, nd, hcl, hp, k⟩ := h
    refine ⟨_, (pss_cons (ps_set (i := 6) sc_law_rows.nd rfl (Or.inl rfl) (pe_lst pa_nil))
      (pss_cons (ps_for PassesOwn.never rfl (pi_range1 (by rfl) T.n_range (pa_cons (pv 4) pa_nil)) (pg_name (i := 7) sc_law_rows.nd rfl (Or.inl rfl))
        (pss_cons (ps_set (i := 8) sc_law_rows.nd rfl (Or.inl rfl) (pe_or (pe_cmpR op_eq (pv 5) pe_int (nomark _)) (pe_one (pe_and (pe_cmpR op_eq (pv 5) pe_int (nomark _)) (pe_one (pe_cmpR op_eq (pv 7) (pe_op op_sub (pv 4) pe_int) (nomark _)))))))
      (pss_one (ps_expr (pe_bm PySem.F.plainAttrs_list PySem.F.slot_list_append PySem.F.type_list_append mt_append (pv 6) (pa_cons (pe_call G_law_row (hr.mono (by decide)) rfl T.mg_law_row T.F_law_row.kp T.b_law_row .nil pass0 (pa_cons (pv 0) (pa_cons (pv 1) (pa_cons (pe_ix ix_list (pv 2) (pe_op op_add (pv 3) (pv 7)) (fun _ _ => rfl)) (pa_cons (pv 8) pa_nil))))) pa_nil))))))
      (pss_one (ps_ret (pv 6))))), ?_⟩
    refine ⟨by show 0 ≤ sizeLine; decide, fun D hD => ?_⟩
    have s0 := same_new (o := .lst []) hD
    refine ⟨_, rfl, c, rfl, by omega, by omega, for_range (n := c.toNat) (fun i σ H2 => Same H H2 ∧ ∃ (ts : List Addr) (rs : List (List Str)) (u1 u2 : Option V), σ = [some (.ref n), some (.ref h), some (.ref p), some (.int 14), some (.int c), some (.int m), some (.ref D), u1, u2] ∧ H2 D = some (.lst (ts.map V.ref)) ∧ Rows H2 D ts cs rs ∧ rs.length = i)
      ⟨s0, [], [], none, none, rfl, upd_same, ⟨Lss.nil, (fun t h => nomatch h), (fun t h => nomatch h)⟩, rfl⟩ ?_ ?_⟩
    · rintro i σ H2 hi ⟨sm, ts, rs, u1, u2, rfl, hd2, hR, hl⟩
      obtain ⟨v, hv, e⟩ := atI_ok (xs := ps) (j := (14 : Int) + (0 + (i : Int))) (by omega) (by omega)
      refine ⟨_, rfl, rfl, _, rfl, ite2 (fun hb => ?_) (fun hb => ⟨_, rfl, rfl, _, rfl, ite2 (fun hb2 => ⟨_, rfl, _, rfl, _, _, rfl, rfl, rfl, ?_⟩) (fun hb2 => ?_)⟩)⟩
      all_goals
        refine ⟨_, rfl, .inl ⟨rfl, _, SqL.of hd2⟩, _, rfl, _, rfl, _, rfl, _, rfl, _, rfl, _, _, rfl, rfl, p, _, _, _, rfl, rfl, sm.seq hP, e, _, rfl, n, h, cs, hs, v, _, rfl, sm.seq hN, sm.seq hH, nd, hcl, hp, fun r ms H3 s3 hr0 hr3 ok => ?_⟩
        refine ⟨D, _, _, rfl, rfl, s3 _ _ hd2, small_int (by rw [List.length_map, hR.1.len]; omega), fun x u e => ?_, ts ++ [r], rs ++ [ms], _, _, rfl, ?_, hR.push s3 hr3 (ne_of_none hd2 hr0).symm ok, ?_⟩
        · rw [upd_ne (ne_of_none e hD)]; exact s3 _ _ (sm _ _ e)
        · rw [List.map_append]; exact upd_same
        · rw [List.length_append, hl]; rfl
    · rintro σ H2 ⟨sm, ts, rs, u1, u2, rfl, hd2, hR, hl⟩
      exact ⟨_, rfl, k D ts rs H2 sm hD hd2 hR (by omega)⟩
end
end My
set_option maxRecDepth 100000
set_option maxHeartbeats 4000000
namespace My
open PySem L2
/-- names of the law: different, good, at most 7 signs -/
def Nms (ns : List Str) : Prop := ns.Nodup ∧ ∀ z ∈ ns, Good z ∧ z.length ≤ 7
theorem Nms.sub {a b c : List Str} (h : Nms a) (p : b.Perm a) (s : c.Sublist b) : Nms c := ⟨s.nodup (p.nodup_iff.mpr h.1), fun z hz => h.2 z (p.mem_iff.mp (s.subset hz))⟩
def W1 : List Str := ["ab", "a", "abc", "aa", "b", "ba", "aab", "bb", "abcdefg", "abcdefh", "aba", "bab"]
def W2 : List Str := ["first", "row", "end", "near", "span", "last", "before", "window", "over", "column", "not", "ask"]
theorem nms_of {ns : List Str} (h : (decide ns.Nodup && ns.all fun z => okName z && decide (z.length ≤ 7)) = true) : Nms ns := by
  rw [Bool.and_eq_true, decide_eq_true_iff, List.all_eq_true] at h
  refine ⟨h.1, fun z hz => ?_⟩
  have := h.2 z hz
  rw [Bool.and_eq_true, decide_eq_true_iff] at this
  exact ⟨okName_iff.mp this.1, this.2⟩
theorem w1_ok : Nms W1 := nms_of (by decide +kernel)
theorem w2_ok : Nms W2 := nms_of (by decide +kernel)
/-! ### words about one letter -/
def l1 (c : Nat) : Str := ⟨#[c]⟩
theorem mul1 (c : Nat) (n : Int) : (Txt.mul (l1 c) n).cps = Array.replicate n.toNat c := by
  unfold Txt.mul
  have h1 : ((l1 c).length == 0) = false := rfl
  split
  · rename_i h
    have : n.toNat = 0 := by omega
    rw [this]
    rfl
  · rename_i h
    split
    · rename_i h'
      rw [h1, Bool.or_false, beq_iff_eq] at h'
      subst h'
      rfl
    · have e : ∀ (m : Nat) (acc : Array Nat), ((List.replicate m (l1 c).cps).foldl (· ++ ·) acc) = acc ++ Array.replicate m c := by
        intro m
        induction m with
        | zero => intro acc; simp
        | succ m ih =>
          intro acc
          rw [List.replicate_succ, List.foldl_cons, ih]
          have : (l1 c).cps = #[c] := rfl
          rw [this, Array.append_assoc]
          congr 1
          apply Array.toList_inj.mp
          simp [List.replicate_succ]
      show ((List.replicate n.toNat (l1 c).cps).foldl (· ++ ·) #[]) = _
      rw [e]
      simp
theorem mulOk1 (c : Nat) {n : Int} (h0 : 0 ≤ n) (h3 : n ≤ 3) : MulOk (l1 c) n := by
  unfold MulOk
  have e : (l1 c).length = 1 := rfl
  rw [e]
  rcases (show n = 0 ∨ n = 1 ∨ n = 2 ∨ n = 3 by omega) with rfl | rfl | rfl | rfl <;> decide
/-- a side of a name: letters behind l -/
def Side (x : Str) : Prop := (∀ c ∈ x.cps.toList, 109 ≤ c ∧ c ≤ 122) ∧ x.length ≤ 3
theorem side1 {c : Nat} {n : Int} (h1 : 109 ≤ c) (h2 : c ≤ 122) (h0 : 0 ≤ n) (h3 : n ≤ 3) : Side (Txt.mul (l1 c) n) := by
  have e := mul1 c n
  refine ⟨fun d hd => ?_, ?_⟩
  · rw [e, Array.toList_replicate, List.mem_replicate] at hd
    rw [hd.2]; exact ⟨h1, h2⟩
  · show (Txt.mul (l1 c) n).cps.size ≤ 3
    rw [e, Array.size_replicate]; omega
theorem em : ("m" : Str) = l1 109 := str_ext (by decide)
theorem ez : ("z" : Str) = l1 122 := str_ext (by decide)
theorem coreT : ∀ k : Fin 12, atI (("abcdefghijkl" : Str)).cps.toList ((k.val : Nat) : Int) = some (97 + k.val) := by decide +kernel
theorem leftT : ∀ k : Fin 14, atI (("mnopqrstuvwxyz" : Str)).cps.toList ((k.val : Nat) : Int) = some (109 + k.val) := by decide +kernel
theorem rightT : ∀ k : Fin 14, atI (("zyxwvutsrqponm" : Str)).cps.toList ((k.val : Nat) : Int) = some (122 - k.val) := by decide +kernel
theorem core_at {j : Int} (h0 : 0 ≤ j) (h1 : j < 12) : atI (("abcdefghijkl" : Str)).cps.toList j = some (97 + j.toNat) := by
  have := coreT ⟨j.toNat, by omega⟩
  rw [show (((⟨j.toNat, by omega⟩ : Fin 12).val : Nat) : Int) = j from by show ((j.toNat : Nat) : Int) = j; omega] at this
  exact this
theorem left_at {j : Int} (h0 : 0 ≤ j) (h1 : j < 14) : atI (("mnopqrstuvwxyz" : Str)).cps.toList j = some (109 + j.toNat) := by
  have := leftT ⟨j.toNat, by omega⟩
  rw [show (((⟨j.toNat, by omega⟩ : Fin 14).val : Nat) : Int) = j from by show ((j.toNat : Nat) : Int) = j; omega] at this
  exact this
theorem right_at {j : Int} (h0 : 0 ≤ j) (h1 : j < 14) : atI (("zyxwvutsrqponm" : Str)).cps.toList j = some (122 - j.toNat) := by
  have := rightT ⟨j.toNat, by omega⟩
  rw [show (((⟨j.toNat, by omega⟩ : Fin 14).val : Nat) : Int) = j from by show ((j.toNat : Nat) : Int) = j; omega] at this
  exact this
theorem core_len : (("abcdefghijkl" : Str)).length ≤ sizeLine := by decide
theorem left_len : (("mnopqrstuvwxyz" : Str)).length ≤ sizeLine := by decide
theorem right_len : (("zyxwvutsrqponm" : Str)).length ≤ sizeLine := by decide
/-- a made name with the letter c -/
def Made (c : Nat) (z : Str) : Prop := Good z ∧ z.length ≤ 7 ∧ z.cps.toList.filter (fun d => decide (d < 109)) = [c]
theorem made_of {l r : Str} {c : Nat} (hl : Side l) (hr : Side r) (h1 : 97 ≤ c) (h2 : c < 109) : Made c (l ++ l1 c ++ r) := by
  have el : (l ++ l1 c ++ r).length = l.length + 1 + r.length := by rw [Str.length_append, Str.length_append]; rfl
  have ec : (l ++ l1 c ++ r).cps.toList = l.cps.toList ++ [c] ++ r.cps.toList := by
    rw [append_cps, append_cps, Array.toList_append, Array.toList_append]; rfl
  have hl2 := hl.2
  have hr2 := hr.2
  refine ⟨⟨by omega, by omega, fun d hd => ?_⟩, by omega, ?_⟩
  · rw [ec] at hd
    rcases List.mem_append.mp hd with hd | hd
    · rcases List.mem_append.mp hd with hd | hd
      · have := hl.1 d hd; omega
      · rw [List.mem_singleton] at hd; omega
    · have := hr.1 d hd; omega
  · have no : ∀ x : Str, Side x → x.cps.toList.filter (fun d => decide (d < 109)) = [] := fun x hx => by
      rw [List.filter_eq_nil_iff]
      intro d hd h
      have := hx.1 d hd
      rw [decide_eq_true_iff] at h
      omega
    have ec2 : [c].filter (fun d => decide (d < 109)) = [c] := by simp [h2]
    rw [ec, List.filter_append, List.filter_append, no l hl, no r hr, ec2]; rfl
/-- the first i made names -/
def Mades (s : Int) (ns : List Str) : Prop := ∀ (t : Nat) z, ns[t]? = some z → Made (97 + (((t : Int) * 5 + s) % 12).toNat) z
theorem Mades.app {s : Int} {ns : List Str} {z : Str} (h : Mades s ns) (hz : Made (97 + (((ns.length : Int) * 5 + s) % 12).toNat) z) : Mades s (ns ++ [z]) := fun t y e => by
  rcases Nat.lt_trichotomy t ns.length with c | c | c
  · rw [List.getElem?_append_left c] at e; exact h t y e
  · rw [c, List.getElem?_append_right (Nat.le_refl _), Nat.sub_self] at e
    cases e; rw [c]; exact hz
  · rw [List.getElem?_append_right (by omega), List.getElem?_eq_none (by simp; omega)] at e
    cases e
theorem Mades.nms {s : Int} {ns : List Str} (h : Mades s ns) (hl : ns.length ≤ 12) : Nms ns := by
  refine ⟨?_, fun z hz => ?_⟩
  · rw [List.nodup_iff_pairwise_ne, List.pairwise_iff_getElem]
    intro i j hi hj hij e
    have h1 := h i _ (List.getElem?_eq_getElem hi)
    have h2 := h j _ (List.getElem?_eq_getElem hj)
    have e1 := h1.2.2
    rw [e, h2.2.2] at e1
    have e2 := (List.cons.inj e1).1
    omega
  · obtain ⟨i, hi, e⟩ := List.getElem_of_mem hz
    have h1 := h i _ (List.getElem?_eq_getElem hi)
    rw [e] at h1
    exact ⟨h1.1, h1.2.1⟩
section
variable {P : Program} {w : World} {K : PySem.W.Frag} {mg : Str → Option Value} {base : Heap} {A : Ad}
def spNames : Sp := fun vs H Q _ => ∃ (n : Nat) (sd : Int), vs = [.int (n : Nat), .int sd] ∧ n ≤ 12 ∧ ∀ D ns H', Same H H' → H' D = some (.lst (sv ns)) → ns.length = n → Nms ns → Q (.ref D) H'
theorem ok_names (T : Txt P K mg A) : FnOk P w K mg base CX0 1 A.a_law_names A.d_law_names ["count", "seed"] spNames := by
  refine T.F_law_names.ok sc_law_names (fun vs H Q E h => ?_) (fun cdv A' outer s H vs Q E hr h => ?_)
  · obtain ⟨n, sd, rfl, _⟩ := h
    rfl
  · obtain ⟨n, sd, rfl, hn, k⟩ := h
    refine ⟨_, (pss_cons (ps_if (pt_cmpR op_gt (pe_op op_mod (pe_callTy call_int1 (by rfl) T.n_int (by decide +kernel) (pa_cons (pv 1) pa_nil)) pe_int) pe_int (nomark _)) (pss_cons (ps_set (i := 2) sc_law_names.nd rfl (Or.inl rfl) (pe_lst (pa_cons pe_str (pa_cons pe_str (pa_cons pe_str (pa_cons pe_str (pa_cons pe_str (pa_cons pe_str (pa_cons pe_str (pa_cons pe_str (pa_cons pe_str (pa_cons pe_str (pa_cons pe_str (pa_cons pe_str pa_nil))))))))))))))
      (pss_cons (ps_if (pt_cmpR op_eq (pe_op op_mod (pe_callTy call_int1 (by rfl) T.n_int (by decide +kernel) (pa_cons (pv 1) pa_nil)) pe_int) pe_int (nomark _)) (pss_one (ps_set (i := 2) sc_law_names.nd rfl (Or.inl rfl) (pe_lst (pa_cons pe_str (pa_cons pe_str (pa_cons pe_str (pa_cons pe_str (pa_cons pe_str (pa_cons pe_str (pa_cons pe_str (pa_cons pe_str (pa_cons pe_str (pa_cons pe_str (pa_cons pe_str (pa_cons pe_str pa_nil))))))))))))))) pss_nil)
      (pss_cons (ps_set (i := 3) sc_law_names.nd rfl (Or.inl rfl) (pe_op op_mod (pe_callTy call_int1 (by rfl) T.n_int (by decide +kernel) (pa_cons (pe_op op_fdiv (pv 1) pe_int) pa_nil)) pe_int))
      (pss_one (ps_ret (pe_slice sl_list (pe_op op_cat (pe_slice sl_list (pv 2) (po_some (pv 3)) po_none) (pe_slice sl_list (pv 2) po_none (po_some (pv 3)))) po_none (po_some (pv 0)))))))) pss_nil)
      (pss_cons (ps_set (i := 4) sc_law_names.nd rfl (Or.inl rfl) (pe_lst pa_nil))
      (pss_cons (ps_for PassesOwn.never rfl (pi_range1 (by rfl) T.n_range (pa_cons (pv 0) pa_nil)) (pg_name (i := 5) sc_law_names.nd rfl (Or.inl rfl))
        (pss_cons (ps_set (i := 6) sc_law_names.nd rfl (Or.inl rfl) (pe_ix ix_str pe_str (pe_op op_mod (pe_callTy call_int1 (by rfl) T.n_int (by decide +kernel) (pa_cons (pe_op op_add (pe_op op_mul (pv 5) pe_int) (pv 1)) pa_nil)) pe_int) (fun _ _ => rfl)))
      (pss_cons (ps_set (i := 7) sc_law_names.nd rfl (Or.inl rfl) (pe_op op_mulS (pe_ix ix_str pe_str (pe_op op_mod (pe_callTy call_int1 (by rfl) T.n_int (by decide +kernel) (pa_cons (pe_op op_add (pe_op op_fdiv (pv 1) pe_int) (pv 5)) pa_nil)) pe_int) (fun _ _ => rfl)) (pe_op op_mod (pe_callTy call_int1 (by rfl) T.n_int (by decide +kernel) (pa_cons (pe_op op_add (pe_op op_fdiv (pv 1) pe_int) (pe_op op_mul (pv 5) pe_int)) pa_nil)) pe_int)))
      (pss_cons (ps_set (i := 8) sc_law_names.nd rfl (Or.inl rfl) (pe_op op_mulS (pe_ix ix_str pe_str (pe_op op_mod (pe_callTy call_int1 (by rfl) T.n_int (by decide +kernel) (pa_cons (pe_op op_add (pe_op op_fdiv (pv 1) pe_int) (pe_op op_mul (pv 5) pe_int)) pa_nil)) pe_int) (fun _ _ => rfl)) (pe_op op_mod (pe_callTy call_int1 (by rfl) T.n_int (by decide +kernel) (pa_cons (pe_op op_add (pe_op op_fdiv (pv 1) pe_int) (pv 5)) pa_nil)) pe_int)))
      (pss_cons (ps_if (pt_cmpR op_eq (pe_op op_mod (pe_callTy call_int1 (by rfl) T.n_int (by decide +kernel) (pa_cons (pv 1) pa_nil)) pe_int) pe_int (nomark _)) (pss_cons (ps_set (i := 7) sc_law_names.nd rfl (Or.inl rfl) (pe_op op_mulS pe_str (pe_op op_mod (pe_callTy call_int1 (by rfl) T.n_int (by decide +kernel) (pa_cons (pe_op op_fdiv (pv 1) pe_int) pa_nil)) pe_int)))
      (pss_one (ps_set (i := 8) sc_law_names.nd rfl (Or.inl rfl) (pe_op op_mulS pe_str (pe_op op_mod (pe_callTy call_int1 (by rfl) T.n_int (by decide +kernel) (pa_cons (pe_op op_fdiv (pv 1) pe_int) pa_nil)) pe_int))))) pss_nil)
      (pss_one (ps_expr (pe_bm PySem.F.plainAttrs_list PySem.F.slot_list_append PySem.F.type_list_append mt_append (pv 4) (pa_cons (pe_op op_add_str (pe_op op_add_str (pv 7) (pv 6)) (pv 8)) pa_nil)))))))))
      (pss_one (ps_ret (pv 4)))))), ?_⟩
    refine ⟨_, rfl, .inl ⟨_, rfl, _, _, rfl, rfl, by show (0 : Int) < 6; decide, _, _, rfl, rfl, _, rfl, ite2 (fun hb => ?_) (fun hb => ?_)⟩⟩
    · refine ⟨by show 12 ≤ sizeLine; decide, fun a0 ha0 => ?_⟩
      have s1 := same_new (o := .lst (sv W1)) ha0
      refine ⟨_, rfl, .inl ⟨_, rfl, _, _, rfl, rfl, by show (0 : Int) < 6; decide, rfl, _, rfl, ite2 (fun hb2 => ?_) (fun hb2 => ?_)⟩⟩
      · refine ⟨by show 12 ≤ sizeLine; decide, fun a ha => ?_⟩
        have s2 := s1.trans (same_new (o := .lst (sv W2)) ha)
        refine ⟨_, rfl, _, _, rfl, rfl, ⟨by decide, by decide⟩, .inl ⟨_, rfl, _, _, rfl, rfl, by show (0 : Int) < 12; decide, ?_⟩⟩
        obtain ⟨c, hc⟩ := Int.eq_ofNat_of_zero_le (Int.emod_nonneg (sd / 6) (show (12 : Int) ≠ 0 by decide))
        refine ⟨_, rfl, _, rfl, _, rfl, a, _, rfl, SqL.of upd_same, fun p hp2 => ?_⟩
        have hbp : a ≠ p := ne_of_none upd_same hp2
        have hp3 := hp2
        have s3 := s2.trans (same_new (o := .lst (cutV (sv W2) (some (sd / 6 % 12)) none)) hp2)
        refine ⟨_, rfl, _, rfl, _, rfl, a, _, rfl, SqL.of (by rw [upd_ne hbp]; exact upd_same), fun q hq => ?_⟩
        have hpq : p ≠ q := ne_of_none upd_same hq
        have s4 := s3.trans (same_new (o := .lst (cutV (sv W2) none (some (sd / 6 % 12)))) hq)
        refine ⟨p, q, _, _, rfl, rfl, by rw [upd_ne hpq]; exact upd_same, upd_same, ?_, fun t ht => ?_⟩
        · rw [hc, cut_dropG, cut_takeG]
          refine Nat.le_trans (m := 24) ?_ (by decide)
          rw [List.length_drop, List.length_take]
          show 12 - c + min c 12 ≤ 24
          omega
        · have s5 := s4.trans (same_new (o := .lst (cutV (sv W2) (some (sd / 6 % 12)) none ++ cutV (sv W2) none (some (sd / 6 % 12)))) ht)
          refine ⟨_, rfl, _, rfl, t, _, rfl, SqL.of upd_same, fun r hr2 => ?_⟩
          have s6 := s5.trans (same_new (o := .lst (cutV (cutV (sv W2) (some (sd / 6 % 12)) none ++ cutV (sv W2) none (some (sd / 6 % 12))) none (some (n : Int)))) hr2)
          have eL : cutV (cutV (sv W2) (some (sd / 6 % 12)) none ++ cutV (sv W2) none (some (sd / 6 % 12))) none (some (n : Int)) = sv ((((W2).drop c) ++ (W2).take c).take n) := by
            rw [hc, cut_dropG, cut_takeG, cut_takeG, sv_drop, sv_take, sv_app, sv_take]
          have pr := rot_perm W2 c
          refine k r _ _ s6 (by rw [← eL]; exact upd_same) ?_ ?_
          · rw [List.length_take, pr.length_eq, show (W2).length = 12 from rfl]; omega
          · exact w2_ok.sub pr (List.take_sublist _ _)
      · have a := a0
        have s2 := s1
        refine ⟨_, rfl, _, _, rfl, rfl, ⟨by decide, by decide⟩, .inl ⟨_, rfl, _, _, rfl, rfl, by show (0 : Int) < 12; decide, ?_⟩⟩
        obtain ⟨c, hc⟩ := Int.eq_ofNat_of_zero_le (Int.emod_nonneg (sd / 6) (show (12 : Int) ≠ 0 by decide))
        refine ⟨_, rfl, _, rfl, _, rfl, a0, _, rfl, SqL.of upd_same, fun p hp2 => ?_⟩
        have hbp : a0 ≠ p := ne_of_none upd_same hp2
        have hp3 := hp2
        have s3 := s2.trans (same_new (o := .lst (cutV (sv W1) (some (sd / 6 % 12)) none)) hp2)
        refine ⟨_, rfl, _, rfl, _, rfl, a0, _, rfl, SqL.of (by rw [upd_ne hbp]; exact upd_same), fun q hq => ?_⟩
        have hpq : p ≠ q := ne_of_none upd_same hq
        have s4 := s3.trans (same_new (o := .lst (cutV (sv W1) none (some (sd / 6 % 12)))) hq)
        refine ⟨p, q, _, _, rfl, rfl, by rw [upd_ne hpq]; exact upd_same, upd_same, ?_, fun t ht => ?_⟩
        · rw [hc, cut_dropG, cut_takeG]
          refine Nat.le_trans (m := 24) ?_ (by decide)
          rw [List.length_drop, List.length_take]
          show 12 - c + min c 12 ≤ 24
          omega
        · have s5 := s4.trans (same_new (o := .lst (cutV (sv W1) (some (sd / 6 % 12)) none ++ cutV (sv W1) none (some (sd / 6 % 12)))) ht)
          refine ⟨_, rfl, _, rfl, t, _, rfl, SqL.of upd_same, fun r hr2 => ?_⟩
          have s6 := s5.trans (same_new (o := .lst (cutV (cutV (sv W1) (some (sd / 6 % 12)) none ++ cutV (sv W1) none (some (sd / 6 % 12))) none (some (n : Int)))) hr2)
          have eL : cutV (cutV (sv W1) (some (sd / 6 % 12)) none ++ cutV (sv W1) none (some (sd / 6 % 12))) none (some (n : Int)) = sv ((((W1).drop c) ++ (W1).take c).take n) := by
            rw [hc, cut_dropG, cut_takeG, cut_takeG, sv_drop, sv_take, sv_app, sv_take]
          have pr := rot_perm W1 c
          refine k r _ _ s6 (by rw [← eL]; exact upd_same) ?_ ?_
          · rw [List.length_take, pr.length_eq, show (W1).length = 12 from rfl]; omega
          · exact w1_ok.sub pr (List.take_sublist _ _)
    · refine ⟨by show 0 ≤ sizeLine; decide, fun D hD => ?_⟩
      have s0 := same_new (o := .lst []) hD
      refine ⟨_, rfl, _, rfl, by omega, by omega, for_range (n := ((n : Nat) : Int).toNat) (fun i σ H2 => Same H H2 ∧ ∃ (ns : List Str) (u1 u2 u3 u4 : Option V), σ = [some (.int (n : Nat)), some (.int sd), none, none, some (.ref D), u1, u2, u3, u4] ∧ H2 D = some (.lst (sv ns)) ∧ Mades sd ns ∧ ns.length = i)
        ⟨s0, [], none, none, none, none, rfl, upd_same, (fun t z e => by simp at e), rfl⟩ ?_ ?_⟩
      · rintro i σ H2 hi ⟨sm, ns, u1, u2, u3, u4, rfl, hd2, hM, hl⟩
        have c0 := Int.emod_nonneg ((0 + (i : Int)) * 5 + sd) (show (12 : Int) ≠ 0 by decide)
        have c1 := Int.emod_lt_of_pos ((0 + (i : Int)) * 5 + sd) (show (0 : Int) < 12 by decide)
        have a0 := Int.emod_nonneg (sd / 12 + (0 + (i : Int))) (show (14 : Int) ≠ 0 by decide)
        have a1 := Int.emod_lt_of_pos (sd / 12 + (0 + (i : Int))) (show (0 : Int) < 14 by decide)
        have b0 := Int.emod_nonneg (sd / 7 + (0 + (i : Int)) * 3) (show (14 : Int) ≠ 0 by decide)
        have b1 := Int.emod_lt_of_pos (sd / 7 + (0 + (i : Int)) * 3) (show (0 : Int) < 14 by decide)
        have m0 := Int.emod_nonneg (sd / 5 + (0 + (i : Int)) * 2) (show (3 : Int) ≠ 0 by decide)
        have m1 := Int.emod_lt_of_pos (sd / 5 + (0 + (i : Int)) * 2) (show (0 : Int) < 3 by decide)
        have n0 := Int.emod_nonneg (sd / 11 + (0 + (i : Int))) (show (4 : Int) ≠ 0 by decide)
        have n1 := Int.emod_lt_of_pos (sd / 11 + (0 + (i : Int))) (show (0 : Int) < 4 by decide)
        have p0 := Int.emod_nonneg (sd / 2) (show (3 : Int) ≠ 0 by decide)
        have p1 := Int.emod_lt_of_pos (sd / 2) (show (0 : Int) < 3 by decide)
        have q0 := Int.emod_nonneg (sd / 6) (show (3 : Int) ≠ 0 by decide)
        have q1 := Int.emod_lt_of_pos (sd / 6) (show (0 : Int) < 3 by decide)
        refine ⟨_, rfl, _, _, rfl, rfl, .inr (by decide), _, rfl, _, _, rfl, rfl, .inl ⟨_, rfl, _, _, rfl, rfl, by show (0 : Int) < 12; decide, _, _, _, rfl, rfl, core_len, core_at c0 c1, ?_⟩⟩
        refine ⟨_, rfl, _, _, rfl, rfl, ⟨by decide, by decide⟩, _, rfl, _, _, rfl, rfl, .inl ⟨_, rfl, _, _, rfl, rfl, by show (0 : Int) < 14; decide, _, _, _, rfl, rfl, left_len, left_at a0 a1, ?_⟩⟩
        refine ⟨_, rfl, _, _, rfl, rfl, ⟨by decide, by decide⟩, _, rfl, _, _, rfl, rfl, .inr (by decide), _, _, rfl, rfl, .inl ⟨_, rfl, _, _, rfl, rfl, by show (0 : Int) < 3; decide, _, _, rfl, rfl, mulOk1 _ m0 (by omega), ?_⟩⟩
        refine ⟨_, rfl, _, _, rfl, rfl, ⟨by decide, by decide⟩, _, rfl, _, _, rfl, rfl, .inr (by decide), _, _, rfl, rfl, .inl ⟨_, rfl, _, _, rfl, rfl, by show (0 : Int) < 14; decide, _, _, _, rfl, rfl, right_len, right_at b0 b1, ?_⟩⟩
        refine ⟨_, rfl, _, _, rfl, rfl, ⟨by decide, by decide⟩, _, rfl, _, _, rfl, rfl, .inl ⟨_, rfl, _, _, rfl, rfl, by show (0 : Int) < 4; decide, _, _, rfl, rfl, mulOk1 _ n0 (by omega), ?_⟩⟩
        have sl := side1 (c := 109 + ((sd / 12 + (0 + (i : Int))) % 14).toNat) (n := (sd / 5 + (0 + (i : Int)) * 2) % 3) (by omega) (by omega) m0 (by omega)
        have sr := side1 (c := 122 - ((sd / 7 + (0 + (i : Int)) * 3) % 14).toNat) (n := (sd / 11 + (0 + (i : Int))) % 4) (by omega) (by omega) n0 (by omega)
        have ecore : ((0 + (i : Int)) * 5 + sd) % 12 = ((ns.length : Int) * 5 + sd) % 12 := by rw [hl, Int.zero_add]
        have fin : ∀ (l r : Str), Side l → Side r → l.length + 1 ≤ sizeLine ∧ (l ++ l1 (97 + (((0 + (i : Int)) * 5 + sd) % 12).toNat)).length + r.length ≤ sizeLine ∧ Mades sd (ns ++ [l ++ l1 (97 + (((0 + (i : Int)) * 5 + sd) % 12).toNat) ++ r]) := fun l r hl2 hr2 => by
          have x1 := hl2.2
          have x2 := hr2.2
          refine ⟨Nat.le_trans (m := 24) (by omega) (by decide), Nat.le_trans (m := 24) ?_ (by decide), hM.app ?_⟩
          · rw [Str.length_append, show (l1 (97 + (((0 + (i : Int)) * 5 + sd) % 12).toNat)).length = 1 from rfl]; omega
          · rw [← ecore]; exact made_of hl2 hr2 (by omega) (by omega)
        refine ⟨_, rfl, .inl ⟨_, rfl, _, _, rfl, rfl, by show (0 : Int) < 2; decide, rfl, _, rfl, ite2 (fun hb2 => ?_) (fun hb2 => ?_)⟩⟩
        · refine ⟨_, rfl, _, _, rfl, rfl, ⟨by decide, by decide⟩, .inl ⟨_, rfl, _, _, rfl, rfl, by show (0 : Int) < 3; decide, _, _, rfl, rfl, by rw [em]; exact mulOk1 _ p0 (by omega), ?_⟩⟩
          refine ⟨_, rfl, _, _, rfl, rfl, ⟨by decide, by decide⟩, .inl ⟨_, rfl, _, _, rfl, rfl, by show (0 : Int) < 3; decide, _, _, rfl, rfl, by rw [ez]; exact mulOk1 _ q0 (by omega), ?_⟩⟩
          have sl2 := side1 (c := 109) (n := sd / 2 % 3) (by omega) (by omega) p0 (by omega)
          have sr2 := side1 (c := 122) (n := sd / 6 % 3) (by omega) (by omega) q0 (by omega)
          rw [← em] at sl2
          rw [← ez] at sr2
          obtain ⟨f1, f2, f3⟩ := fin _ _ sl2 sr2
          refine ⟨_, rfl, .inl ⟨rfl, _, SqL.of hd2⟩, _, rfl, _, rfl, _, _, rfl, rfl, f1, _, rfl, _, _, rfl, rfl, f2, D, _, _, rfl, rfl, hd2, small_int (by rw [len_sv]; omega), ?_⟩
          refine ⟨fun x u e => ?_, _, _, _, _, _, rfl, ?_, f3, by rw [List.length_append, hl]; rfl⟩
          · rw [upd_ne (ne_of_none e hD)]; exact sm _ _ e
          · rw [sv_snoc']; exact upd_same
        · obtain ⟨f1, f2, f3⟩ := fin _ _ sl sr
          refine ⟨_, rfl, .inl ⟨rfl, _, SqL.of hd2⟩, _, rfl, _, rfl, _, _, rfl, rfl, f1, _, rfl, _, _, rfl, rfl, f2, D, _, _, rfl, rfl, hd2, small_int (by rw [len_sv]; omega), ?_⟩
          refine ⟨fun x u e => ?_, _, _, _, _, _, rfl, ?_, f3, by rw [List.length_append, hl]; rfl⟩
          · rw [upd_ne (ne_of_none e hD)]; exact sm _ _ e
          · rw [sv_snoc']; exact upd_same
      · rintro σ H2 ⟨sm, ns, u1, u2, u3, u4, rfl, hd2, hM, hl⟩
        rw [Int.toNat_natCast] at hl
        exact ⟨_, rfl, k D ns H2 sm hd2 hl (hM.nms (by omega))⟩
end
end My
set_option maxRecDepth 100000
set_option maxHeartbeats 4000000
namespace My
open PySem L2
section
variable {P : Program} {w : World} {K : PySem.W.Frag} {mg : Str → Option Value} {base : Heap} {A : Ad}
def spIsNum : Sp := fun vs H Q _ => ∃ (v a b : Int), vs = [.int v, .int a, .int b] ∧ Q (.bl (decide (a ≤ v ∧ v ≤ b))) H
theorem ok_isNum (T : Txt P K mg A) : FnOk P w K mg base CX0 1 A.a_law_is_number A.d_law_is_number ["value", "least", "most"] spIsNum := by
  refine T.F_law_is_number.ok sc_law_is_number (fun vs H Q E h => ?_) (fun cdv A' outer s H vs Q E hr h => ?_)
  · obtain ⟨v, a, b, rfl, _⟩ := h
    rfl
  · obtain ⟨v, a, b, rfl, k⟩ := h
    refine ⟨_, (pss_one (ps_ret (pe_and (pe_callB call_isi (by rfl) T.n_isinstance (by decide +kernel) (pa_cons (pv 0) (pa_cons (pe_bltn (v := .ty "int") (by rfl) T.n_int (by decide +kernel) rfl) pa_nil))) (pe_and (pe_not (pe_callB call_isi (by rfl) T.n_isinstance (by decide +kernel) (pa_cons (pv 0) (pa_cons (pe_bltn (v := .ty "bool") (by rfl) T.n_bool (by decide +kernel) rfl) pa_nil)))) (pe_and (pe_cmpR op_le (pv 1) (pv 0) (nomark _)) (pe_one (pe_cmpR op_le (pv 0) (pv 2) (nomark _)))))))), ?_⟩
    refine ⟨_, rfl, _, _, _, _, true, rfl, .ty _, .base (.int _), kit_ty (by decide +kernel), true, rfl, iteT ?_⟩
    refine ⟨_, rfl, _, _, _, _, false, rfl, .ty _, .base (.int _), kit_ty (by decide +kernel), false, rfl, true, rfl, iteT ?_⟩
    refine ⟨_, rfl, _, rfl, _, _, rfl, rfl, _, rfl, ?_⟩
    by_cases h1 : a ≤ v
    · refine itY h1 ⟨_, rfl, _, rfl, _, _, rfl, rfl, ?_⟩
      rw [show decide (a ≤ v ∧ v ≤ b) = decide (v ≤ b) from decide_eq_decide.mpr ⟨fun h => h.2, fun h => ⟨h1, h⟩⟩] at k
      exact k
    · refine itN h1 ?_
      rw [decide_eq_false (fun h => h1 h.1)] at k
      exact k
/-- the step's promise, in the law's own eyes -/
def spLStep (K : PySem.W.Frag) : Sp := fun vs H Q _ => ∃ (st se n r : Addr) (s : St) (cs : List Str) (sets rs : List (List Str)) (us ts : List Addr), vs = [.ref st, .ref se, .ref n, .ref r] ∧ H st = some (.tup s.enc) ∧ SqL K H se (us.map V.ref) ∧ Lss .lst H us sets ∧ SqL K H n (sv cs) ∧ SqL K H r (ts.map V.ref) ∧ Lss .lst H ts rs ∧
  s.ok ∧ cs.length ≤ 12 ∧ sets.length ≤ 100 ∧ rs.length ≤ 100 ∧ (∀ S ∈ sets, S.length ≤ 12) ∧ (stepM cs rs sets s = none → ∀ H', Same H H' → Q .non H') ∧ ∀ S, stepM cs rs sets s = some S → ∀ a H', Same H H' → H a = none → H' a = some (.lst (sv S)) → Q (.ref a) H'
theorem enc_ne (s : St) : s.enc ≠ [] := by cases s <;> exact List.cons_ne_nil _ _
theorem ok_lstep (T : Txt P K mg A) : FnOk P w K mg base CX0 2 A.a_law_step A.d_law_step ["step", "sets", "names", "rows"] (spLStep K) := by
  have G_law_is_number := ok_isNum (P := P) (w := w) (base := base) T
  have G_law_sorted := ok_sorted (P := P) (w := w) (base := base) T
  refine T.F_law_step.ok sc_law_step (fun vs H Q E h => ?_) (fun cdv A' outer s H vs Q E hr h => ?_)
  · obtain ⟨st, se, n, r, s, cs, sets, rs, us, ts, rfl, _⟩ := h
    rfl
  · obtain ⟨st, se, n, r, s, cs, sets, rs, us, ts, rfl, hst, hse, hS, hN, hr2, hR, ok, hc, hsl, hrl, hSl, kn, ks⟩ := h
    refine ⟨_, (pss_cons (ps_if (PW.pt (pw_or (pt_not (pt_val (pe_callB call_isi (by rfl) T.n_isinstance (by decide +kernel) (pa_cons (pv 0) (pa_cons (pe_bltn (v := .ty "tuple") (by rfl) T.n_tuple (by decide +kernel) rfl) pa_nil))))) (pw_or1 (pt_cmpR op_eq (pe_callB call_len_seq (by rfl) T.n_len (by decide +kernel) (pa_cons (pv 0) pa_nil)) pe_int (nomark _))))) (pss_one (ps_ret pe_non)) pss_nil)
      (pss_cons (ps_if (PW.pt (pw_and (pt_cmpR op_eq (pe_ix ix_tup (pv 0) pe_int (fun _ _ => rfl)) pe_str (nomark _)) (pw_and (pt_cmpR op_eq (pe_callB call_len_seq (by rfl) T.n_len (by decide +kernel) (pa_cons (pv 0) pa_nil)) pe_int (nomark _)) (pw_and1 (pt_cmpR op_gt (pe_callB call_len_seq (by rfl) T.n_len (by decide +kernel) (pa_cons (pv 2) pa_nil)) pe_int (nomark _)))))) (pss_one (ps_ret (pe_callTy call_list_of (by rfl) T.n_list (by decide +kernel) (pa_cons (pv 2) pa_nil)))) pss_nil)
      (pss_cons (ps_if (PW.pt (pw_and (pt_cmpR op_eq (pe_ix ix_tup (pv 0) pe_int (fun _ _ => rfl)) pe_str (nomark _)) (pw_and (pt_cmpR op_eq (pe_callB call_len_seq (by rfl) T.n_len (by decide +kernel) (pa_cons (pv 0) pa_nil)) pe_int (nomark _)) (pw_and1 (pt_cmpR op_in_seq (pe_ix ix_tup (pv 0) pe_int (fun _ _ => rfl)) (pv 2) (by with_unfolding_all rfl)))))) (pss_one (ps_ret (pe_lst (pa_cons (pe_ix ix_tup (pv 0) pe_int (fun _ _ => rfl)) pa_nil)))) pss_nil)
      (pss_cons (ps_if (PW.pt (pw_and (pt_cmpR op_eq (pe_ix ix_tup (pv 0) pe_int (fun _ _ => rfl)) pe_str (nomark _)) (pw_and (pt_cmpR op_eq (pe_callB call_len_seq (by rfl) T.n_len (by decide +kernel) (pa_cons (pv 0) pa_nil)) pe_int (nomark _)) (pw_and1 (pt_val (pe_call G_law_is_number (hr.mono (by decide)) rfl T.mg_law_is_number T.F_law_is_number.kp T.b_law_is_number .nil pass0 (pa_cons (pe_ix ix_tup (pv 0) pe_int (fun _ _ => rfl)) (pa_cons pe_int (pa_cons (pe_op op_sub (pe_callB call_len_seq (by rfl) T.n_len (by decide +kernel) (pa_cons (pv 3) pa_nil)) pe_int) pa_nil))))))))) (pss_cons (ps_set (i := 4) sc_law_step.nd rfl (Or.inl rfl) (pe_call G_law_sorted (hr.mono (by decide)) rfl T.mg_law_sorted T.F_law_sorted.kp T.b_law_sorted .nil pass0 (pa_cons (pv 2) (pa_cons (pe_ix ix_list (pv 3) (pe_ix ix_tup (pv 0) pe_int (fun _ _ => rfl)) (fun _ _ => rfl)) pa_nil))))
      (pss_cons (ps_if (pt_cmpR op_gt (pe_callB call_len_seq (by rfl) T.n_len (by decide +kernel) (pa_cons (pv 4) pa_nil)) pe_int (nomark _)) (pss_one (ps_ret (pv 4))) pss_nil)
      (pss_one (ps_ret pe_non)))) pss_nil)
      (pss_cons (ps_if (PW.pt (pw_or (pt_cmpR op_ne (pe_callB call_len_seq (by rfl) T.n_len (by decide +kernel) (pa_cons (pv 0) pa_nil)) pe_int (nomark _)) (pw_or (pt_not (pt_val (pe_call G_law_is_number (hr.mono (by decide)) rfl T.mg_law_is_number T.F_law_is_number.kp T.b_law_is_number .nil pass0 (pa_cons (pe_ix ix_tup (pv 0) pe_int (fun _ _ => rfl)) (pa_cons pe_int (pa_cons (pe_op op_sub (pe_callB call_len_seq (by rfl) T.n_len (by decide +kernel) (pa_cons (pv 1) pa_nil)) pe_int) pa_nil)))))) (pw_or1 (pt_not (pt_val (pe_call G_law_is_number (hr.mono (by decide)) rfl T.mg_law_is_number T.F_law_is_number.kp T.b_law_is_number .nil pass0 (pa_cons (pe_ix ix_tup (pv 0) pe_int (fun _ _ => rfl)) (pa_cons pe_int (pa_cons (pe_op op_sub (pe_callB call_len_seq (by rfl) T.n_len (by decide +kernel) (pa_cons (pv 1) pa_nil)) pe_int) pa_nil)))))))))) (pss_one (ps_ret pe_non)) pss_nil)
      (pss_cons (ps_set (i := 5) sc_law_step.nd rfl (Or.inr rfl) (pe_ix ix_list (pv 1) (pe_ix ix_tup (pv 0) pe_int (fun _ _ => rfl)) (fun _ _ => rfl)))
      (pss_cons (ps_set (i := 6) sc_law_step.nd rfl (Or.inr rfl) (pe_ix ix_list (pv 1) (pe_ix ix_tup (pv 0) pe_int (fun _ _ => rfl)) (fun _ _ => rfl)))
      (pss_cons (ps_setLc (i := 7) (own := [("name", 8)]) (g := gName 8) (tt := _) rfl sc_law_step.nd rfl rfl (sw_true rfl rfl rfl (by decide +kernel)) (pi_list (pv 5)) (blkOk_by (N := ["step", "sets", "names", "rows", "made", "one", "other", "both", "name"]) (sc := defScope s_law_step) (by decide +kernel)) (fun _ _ _ _ _ => (pg_name (i := 8) sc_law_step.nd rfl (Or.inl rfl))) (fun _ _ _ _ _ => (pts_one (pt_cmpR (show OpR _ _ (rIn K false) from op_in_seq) (pv 8) (pv 6) (by with_unfolding_all rfl)))) (fun _ _ _ _ _ => (pv 8)))
      (pss_cons (ps_if (pt_cmpR op_eq (pe_callB call_len_seq (by rfl) T.n_len (by decide +kernel) (pa_cons (pv 7) pa_nil)) pe_int (nomark _)) (pss_one (ps_ret pe_non)) pss_nil)
      (pss_cons (ps_if (pt_cmpR op_eq (pe_ix ix_tup (pv 0) pe_int (fun _ _ => rfl)) pe_str (nomark _)) (pss_one (ps_ret (pv 7))) pss_nil)
      (pss_cons (ps_if (pt_cmpR op_eq (pe_ix ix_tup (pv 0) pe_int (fun _ _ => rfl)) pe_str (nomark _)) (pss_one (ps_ret (pe_lc (own := [("name", 8)]) (g := gName 8) (tt := _) rfl sc_law_step.nd (pi_list (pv 2)) (blkOk_by (N := ["step", "sets", "names", "rows", "made", "one", "other", "both", "name"]) (sc := defScope s_law_step) (by decide +kernel)) (fun _ _ _ _ _ => (pg_name (i := 8) sc_law_step.nd rfl (Or.inl rfl))) (fun _ _ _ _ _ => (pts_one (PW.pt (pw_or (pt_cmpR (show OpR _ _ (rIn K false) from op_in_seq) (pv 8) (pv 5) (by with_unfolding_all rfl)) (pw_or1 (pt_cmpR (show OpR _ _ (rIn K false) from op_in_seq) (pv 8) (pv 6) (by with_unfolding_all rfl))))))) (fun _ _ _ _ _ => (pv 8))))) pss_nil)
      (pss_cons (ps_if (PW.pt (pw_and (pt_cmpR op_eq (pe_ix ix_tup (pv 0) pe_int (fun _ _ => rfl)) pe_str (nomark _)) (pw_and (pt_cmpR op_lt (pe_callB call_len_seq (by rfl) T.n_len (by decide +kernel) (pa_cons (pv 7) pa_nil)) (pe_callB call_len_seq (by rfl) T.n_len (by decide +kernel) (pa_cons (pv 5) pa_nil)) (nomark _)) (pw_and1 (pt_cmpR op_lt (pe_callB call_len_seq (by rfl) T.n_len (by decide +kernel) (pa_cons (pv 7) pa_nil)) (pe_callB call_len_seq (by rfl) T.n_len (by decide +kernel) (pa_cons (pv 6) pa_nil)) (nomark _)))))) (pss_one (ps_ret (pe_lc (own := [("name", 8)]) (g := gName 8) (tt := _) rfl sc_law_step.nd (pi_list (pv 5)) (blkOk_by (N := ["step", "sets", "names", "rows", "made", "one", "other", "both", "name"]) (sc := defScope s_law_step) (by decide +kernel)) (fun _ _ _ _ _ => (pg_name (i := 8) sc_law_step.nd rfl (Or.inl rfl))) (fun _ _ _ _ _ => (pts_one (pt_cmpR (show OpR _ _ (rIn K true) from op_notIn_seq) (pv 8) (pv 6) (by with_unfolding_all rfl)))) (fun _ _ _ _ _ => (pv 8))))) pss_nil)
      (pss_one (ps_ret pe_non)))))))))))))), ?_⟩
    refine ⟨_, rfl, _, _, _, _, true, rfl, .ty _, .base (.tup hst), kit_ty (by decide +kernel), ?_⟩
    cases s with
    | all =>
      refine ⟨true, rfl, ifF rfl ⟨_, rfl, st, _, rfl, .inr (SqT.of hst), rfl, _, rfl, ifF (iNe (by decide)) ?_⟩⟩
      refine ⟨_, rfl, st, _, _, _, rfl, rfl, SqT.of hst, at0 _ _, rfl, _, rfl, ifT (sEq rfl) ?_⟩
      refine ⟨_, rfl, st, _, rfl, .inr (SqT.of hst), rfl, _, rfl, ifT (iEq rfl) ?_⟩
      refine ⟨_, rfl, n, _, rfl, .inl hN, _, _, rfl, rfl, _, rfl, ?_⟩
      rw [len_sv]
      by_cases h0 : 0 < cs.length
      · refine itY (by omega) ?_
        exact ⟨_, rfl, n, _, rfl, .inl hN, fun l hl => ks cs (by show (if _ then _ else _) = _; rw [if_pos h0]) l _ (same_new hl) hl upd_same⟩
      · refine itN (by omega) ?_
        have e := kn (by show (if _ then _ else _) = _; rw [if_neg h0])
        refine ⟨_, rfl, st, _, _, _, rfl, rfl, SqT.of hst, at0 _ _, rfl, _, rfl, ifF (sNe (by decide +kernel)) (ifF rfl ?_)⟩
        refine ⟨_, rfl, st, _, _, _, rfl, rfl, SqT.of hst, at0 _ _, rfl, _, rfl, ifF (sNe (by decide +kernel)) (ifF rfl ?_)⟩
        refine ⟨_, rfl, st, _, rfl, .inr (SqT.of hst), rfl, _, rfl, ifT rfl ?_⟩
        exact e H (Same.refl _)
    | one z =>
      refine ⟨true, rfl, ifF rfl ⟨_, rfl, st, _, rfl, .inr (SqT.of hst), rfl, _, rfl, ifF (iNe (show (2 : Int) ≠ 0 by decide)) ?_⟩⟩
      refine ⟨_, rfl, st, _, _, _, rfl, rfl, SqT.of hst, at0 _ _, rfl, _, rfl, ifF (sNe ne_all_one) (ifF rfl ?_)⟩
      refine ⟨_, rfl, st, _, _, _, rfl, rfl, SqT.of hst, at0 _ _, rfl, _, rfl, ifT (sEq rfl) ?_⟩
      refine ⟨_, rfl, st, _, rfl, .inr (SqT.of hst), rfl, _, rfl, ifT (iEq rfl) ?_⟩
      refine ⟨_, rfl, st, _, _, _, rfl, rfl, SqT.of hst, at1 _ _ _, _, rfl, n, _, rfl, .inl hN, rfl, flat_sv _, _, rfl, ?_⟩
      rw [if_neg Bool.false_ne_true, inV_str]
      by_cases hz : z ∈ cs
      · refine ifT (decide_eq_true hz) ?_
        exact ⟨_, rfl, st, _, _, _, rfl, rfl, SqT.of hst, at1 _ _ _, (by show 1 ≤ sizeLine; decide), fun l hl => ks [z] (by show (if _ then _ else _) = _; rw [if_pos hz]) l _ (same_new hl) hl upd_same⟩
      · refine ifF (decide_eq_false hz) ?_
        have e := kn (by show (if _ then _ else _) = _; rw [if_neg hz])
        refine ⟨_, rfl, st, _, _, _, rfl, rfl, SqT.of hst, at0 _ _, rfl, _, rfl, ifF (sNe ne_row_one) (ifF rfl ?_)⟩
        refine ⟨_, rfl, st, _, rfl, .inr (SqT.of hst), rfl, _, rfl, ifT rfl ?_⟩
        exact e H (Same.refl _)
    | row z =>
      refine ⟨true, rfl, ifF rfl ⟨_, rfl, st, _, rfl, .inr (SqT.of hst), rfl, _, rfl, ifF (iNe (show (2 : Int) ≠ 0 by decide)) ?_⟩⟩
      refine ⟨_, rfl, st, _, _, _, rfl, rfl, SqT.of hst, at0 _ _, rfl, _, rfl, ifF (sNe (by decide +kernel)) (ifF rfl ?_)⟩
      refine ⟨_, rfl, st, _, _, _, rfl, rfl, SqT.of hst, at0 _ _, rfl, _, rfl, ifF (sNe (by decide +kernel)) (ifF rfl ?_)⟩
      refine ⟨_, rfl, st, _, _, _, rfl, rfl, SqT.of hst, at0 _ _, rfl, _, rfl, ifT (sEq rfl) ?_⟩
      refine ⟨_, rfl, st, _, rfl, .inr (SqT.of hst), rfl, _, rfl, ifT (iEq rfl) ?_⟩
      refine ⟨_, rfl, st, _, _, _, rfl, rfl, SqT.of hst, at1 _ _ _, _, rfl, r, _, rfl, .inl hr2, _, _, rfl, rfl, _, _, _, rfl, _, rfl, ?_⟩
      have lt : (ts.map V.ref).length = rs.length := by rw [List.length_map, hR.len]
      have ed : decide ((0 : Int) ≤ z ∧ z ≤ (((ts.map V.ref).length : Nat) : Int) - 1) = decide (0 ≤ z ∧ z < rs.length) := decide_eq_decide.mpr (by rw [lt]; omega)
      have ks' : ∀ S, (if 0 ≤ z ∧ z < rs.length then (if canon cs (rs.getD z.toNat []) = [] then none else some (canon cs (rs.getD z.toNat []))) else none) = some S → ∀ a H', Same H H' → H a = none → H' a = some (.lst (sv S)) → Q (.ref a) H' := ks
      have kn' : (if 0 ≤ z ∧ z < rs.length then (if canon cs (rs.getD z.toNat []) = [] then none else some (canon cs (rs.getD z.toNat []))) else none) = none → ∀ H', Same H H' → Q .non H' := kn
      by_cases hz : 0 ≤ z ∧ z < rs.length
      · refine ifT (ed.trans (decide_eq_true hz)) ?_
        rw [if_pos hz] at ks' kn'
        obtain ⟨i, rfl⟩ := Int.eq_ofNat_of_zero_le hz.1
        have hi : i < rs.length := by omega
        obtain ⟨t, x, et, ex, hx⟩ := hR.ex hi
        rw [Int.toNat_natCast, getD_of ex] at ks' kn'
        refine ⟨_, rfl, _, rfl, _, rfl, st, _, _, _, rfl, rfl, SqT.of hst, at1 _ _ _, r, _, _, _, rfl, rfl, hr2, atR_of et, n, t, cs, x, rfl, hN, SqL.of hx, by omega, fun a H2 s2 ha ha2 => ?_⟩
        refine ⟨_, rfl, a, _, rfl, .inl (SqL.of ha2), _, _, rfl, rfl, _, rfl, ?_⟩
        rw [len_sv]
        by_cases he : canon cs x = []
        · refine itN (by rw [he]; decide) ?_
          exact kn' (by rw [if_pos he]) H2 s2
        · refine itY (by have := List.length_pos_iff.mpr he; omega) ?_
          exact ⟨_, rfl, ks' _ (by rw [if_neg he]) a H2 s2 ha ha2⟩
      · refine ifF (ed.trans (decide_eq_false hz)) ?_
        rw [if_neg hz] at kn'
        refine ⟨_, rfl, st, _, rfl, .inr (SqT.of hst), rfl, _, rfl, ifT rfl ?_⟩
        exact kn' rfl H (Same.refl _)
    | bin z i j =>
      obtain ⟨hz, ⟨i0, i1⟩, j0, j1⟩ := ok
      refine ⟨true, rfl, ifF rfl ⟨_, rfl, st, _, rfl, .inr (SqT.of hst), rfl, _, rfl, ifF (iNe (show (3 : Int) ≠ 0 by decide)) ?_⟩⟩
      refine ⟨_, rfl, st, _, _, _, rfl, rfl, SqT.of hst, at0 _ _, rfl, _, rfl, ifF (sNe hz.all) (ifF rfl ?_)⟩
      refine ⟨_, rfl, st, _, _, _, rfl, rfl, SqT.of hst, at0 _ _, rfl, _, rfl, ifF (sNe hz.one) (ifF rfl ?_)⟩
      refine ⟨_, rfl, st, _, _, _, rfl, rfl, SqT.of hst, at0 _ _, rfl, _, rfl, ifF (sNe hz.row) (ifF rfl ?_)⟩
      have lu : (us.map V.ref).length = sets.length := by rw [List.length_map, hS.len]
      have ei : decide ((0 : Int) ≤ i ∧ i ≤ (((us.map V.ref).length : Nat) : Int) - 1) = decide (0 ≤ i ∧ i < sets.length) := decide_eq_decide.mpr (by rw [lu]; omega)
      have ej : decide ((0 : Int) ≤ j ∧ j ≤ (((us.map V.ref).length : Nat) : Int) - 1) = decide (0 ≤ j ∧ j < sets.length) := decide_eq_decide.mpr (by rw [lu]; omega)
      have kn' : (if (0 ≤ i ∧ i < sets.length) ∧ (0 ≤ j ∧ j < sets.length) then joinM cs z (sets.getD i.toNat []) (sets.getD j.toNat []) else none) = none → ∀ H', Same H H' → Q .non H' := kn
      have ks' : ∀ S, (if (0 ≤ i ∧ i < sets.length) ∧ (0 ≤ j ∧ j < sets.length) then joinM cs z (sets.getD i.toNat []) (sets.getD j.toNat []) else none) = some S → ∀ a H', Same H H' → H a = none → H' a = some (.lst (sv S)) → Q (.ref a) H' := ks
      refine ⟨_, rfl, st, _, rfl, .inr (SqT.of hst), rfl, _, rfl, ifF (by rfl) ?_⟩
      refine ⟨_, rfl, st, _, _, _, rfl, rfl, SqT.of hst, at1 _ _ _, _, rfl, se, _, rfl, .inl hse, _, _, rfl, rfl, _, _, _, rfl, _, rfl, ?_⟩
      by_cases hi : 0 ≤ i ∧ i < sets.length
      · refine ifF (by rw [ei, decide_eq_true hi]; rfl) ?_
        refine ⟨_, rfl, st, _, _, _, rfl, rfl, SqT.of hst, at2 _ _ _ _, _, rfl, se, _, rfl, .inl hse, _, _, rfl, rfl, _, _, _, rfl, _, rfl, ?_⟩
        by_cases hj : 0 ≤ j ∧ j < sets.length
        · refine ifF (by rw [ej, decide_eq_true hj]; rfl) ?_
          rw [if_pos ⟨hi, hj⟩] at kn' ks'
          obtain ⟨i, rfl⟩ := Int.eq_ofNat_of_zero_le hi.1
          obtain ⟨j, rfl⟩ := Int.eq_ofNat_of_zero_le hj.1
          obtain ⟨t, S, et, eS, hT1⟩ := hS.ex (i := i) (by omega)
          obtain ⟨u, U, eu, eU, hU1⟩ := hS.ex (i := j) (by omega)
          have lS := hSl S (List.mem_of_getElem? eS)
          have lU := hSl U (List.mem_of_getElem? eU)
          rw [Int.toNat_natCast, Int.toNat_natCast, getD_of eS, getD_of eU] at kn' ks'
          unfold joinM at kn' ks'
          refine ⟨_, rfl, _, rfl, st, _, _, _, rfl, rfl, SqT.of hst, at1 _ _ _, se, _, _, _, rfl, rfl, hse, atR_of et, ?_⟩
          refine ⟨_, rfl, _, rfl, st, _, _, _, rfl, rfl, SqT.of hst, at2 _ _ _ _, se, _, _, _, rfl, rfl, hse, atR_of eu, ?_⟩
          have flt : ∀ (X : List Str) (p : Str → Bool) (i : Nat) (z : Str), X[i]? = some z → sv ((X.take (i + 1)).filter p) = sv ((X.take i).filter p) ++ (if p z = true then [V.str z] else []) := fun X p i z hz => by
            rw [take_succ hz, List.filter_append, ← sv_app]
            congr 1
            rw [List.filter_cons]
            split <;> rfl
          have fll : ∀ (X : List Str) (p : Str → Bool) (i : Nat), X.length ≤ 12 → (sv ((X.take i).filter p)).length ≤ 1000000 := fun X p i hX => by
            have := List.length_filter_le p (X.take i)
            rw [List.length_take] at this
            rw [len_sv]; omega
          refine ⟨_, rfl, t, rfl, ⟨_, SqL.of hT1⟩, fun D hD => lc_it walk_list (PvS H D fun i => sv ((S.take i).filter (· ∈ U))) (pv0 hD rfl) (fun i H2 _ q => q.1.seq (SqL.of hT1)) ?_ ?_⟩
          · rintro i x H3 H4 hi q ⟨rfl, hx⟩
            obtain ⟨z, hz, rfl⟩ := sv_get hx
            have st1 := flt S (· ∈ U) i z hz
            refine ⟨rfl, _, rfl, _, rfl, u, _, rfl, .inl (SqL.of (q.1 _ _ hU1)), rfl, flat_sv _, _, rfl, ?_⟩
            rw [if_neg Bool.false_ne_true, inV_str]
            by_cases hm : z ∈ U
            · rw [if_pos (decide_eq_true hm)] at st1
              exact ifT (decide_eq_true hm) ⟨_, rfl, q.push hD st1 (fll S _ i lS)⟩
            · rw [if_neg (by rw [decide_eq_false hm]; exact Bool.false_ne_true), List.append_nil] at st1
              exact ifF (decide_eq_false hm) (q.skip st1)
          · rintro H3 ⟨s3, h3⟩
            have h3 : H3 D = some (.lst (sv ((S.take (sv S).length).filter (· ∈ U)))) := h3
            rw [len_sv, List.take_length] at h3
            have hT3 := s3 _ _ hT1
            have hU3 := s3 _ _ hU1
            have hst3 := s3 _ _ hst
            have lB : (S.filter (· ∈ U)).length ≤ 12 := Nat.le_trans (List.length_filter_le _ _) lS
            refine ⟨_, rfl, D, _, rfl, .inl (SqL.of h3), rfl, _, rfl, ?_⟩
            rw [len_sv]
            by_cases hb : S.filter (· ∈ U) = []
            · refine ifT (by rw [hb]; rfl) ?_
              exact kn' (by rw [if_pos hb]) H3 s3
            · refine ifF (iNe (by have := List.length_pos_iff.mpr hb; omega)) ?_
              rw [if_neg hb] at kn' ks'
              refine ⟨_, rfl, st, _, _, _, rfl, rfl, SqT.of hst3, at0 _ _, rfl, _, rfl, ?_⟩
              by_cases w1 : z = ("both" : Str)
              · refine ifT (sEq w1) ?_
                rw [if_pos w1] at ks'
                exact ⟨_, rfl, ks' _ rfl D H3 s3 hD h3⟩
              · refine ifF (sNe w1) ?_
                rw [if_neg w1] at kn' ks'
                refine ⟨_, rfl, st, _, _, _, rfl, rfl, SqT.of hst3, at0 _ _, rfl, _, rfl, ?_⟩
                by_cases w2 : z = ("either" : Str)
                · refine ifT (sEq w2) ?_
                  rw [if_pos w2] at ks'
                  refine ⟨_, rfl, n, rfl, ⟨_, s3.seq hN⟩, fun D2 hD2 => lc_it walk_list (PvS H3 D2 fun i => sv ((cs.take i).filter fun x => x ∈ S || x ∈ U)) (pv0 hD2 rfl) (fun i H2 _ q => q.1.seq (s3.seq hN)) ?_ ?_⟩
                  · rintro i x H5 H4 hi q ⟨rfl, hx⟩
                    obtain ⟨z, hz, rfl⟩ := sv_get hx
                    have st1 := flt cs (fun x => x ∈ S || x ∈ U) i z hz
                    refine ⟨rfl, _, rfl, _, rfl, t, _, rfl, .inl (SqL.of (q.1 _ _ hT3)), rfl, flat_sv _, _, rfl, ?_⟩
                    rw [if_neg Bool.false_ne_true, inV_str]
                    by_cases hm : z ∈ S
                    · rw [if_pos (by rw [decide_eq_true hm]; rfl)] at st1
                      exact ifT (decide_eq_true hm) (ifT rfl ⟨_, rfl, q.push hD2 st1 (fll cs _ i hc)⟩)
                    · refine ifF (decide_eq_false hm) ⟨_, rfl, _, rfl, u, _, rfl, .inl (SqL.of (q.1 _ _ hU3)), rfl, flat_sv _, _, rfl, ?_⟩
                      rw [if_neg Bool.false_ne_true, inV_str]
                      by_cases hm2 : z ∈ U
                      · rw [if_pos (by rw [decide_eq_true hm2, Bool.or_true])] at st1
                        exact ifT (decide_eq_true hm2) ⟨_, rfl, q.push hD2 st1 (fll cs _ i hc)⟩
                      · rw [if_neg (by rw [decide_eq_false hm, decide_eq_false hm2]; exact Bool.false_ne_true), List.append_nil] at st1
                        exact ifF (decide_eq_false hm2) (q.skip st1)
                  · rintro H5 ⟨s5, h5⟩
                    have h5 : H5 D2 = some (.lst (sv ((cs.take (sv cs).length).filter fun x => x ∈ S || x ∈ U))) := h5
                    rw [len_sv, List.take_length] at h5
                    exact ks' _ rfl D2 H5 (s3.trans s5) (none_of s3 hD2) h5
                · refine ifF (sNe w2) ?_
                  rw [if_neg w2] at kn' ks'
                  have w3 : z = ("first" : Str) := by
                    rcases hz with h | h | h
                    · exact absurd h w1
                    · exact absurd h w2
                    · exact h
                  refine ⟨_, rfl, st, _, _, _, rfl, rfl, SqT.of hst3, at0 _ _, rfl, _, rfl, ifT (sEq w3) ?_⟩
                  refine ⟨_, rfl, D, _, rfl, .inl (SqL.of h3), _, rfl, t, _, rfl, .inl (SqL.of hT3), _, _, rfl, rfl, _, rfl, ?_⟩
                  rw [len_sv, len_sv]
                  by_cases c1 : (S.filter (· ∈ U)).length < S.length
                  · refine itY (by omega) ?_
                    refine ⟨_, rfl, D, _, rfl, .inl (SqL.of h3), _, rfl, u, _, rfl, .inl (SqL.of hU3), _, _, rfl, rfl, _, rfl, ?_⟩
                    rw [len_sv, len_sv]
                    by_cases c2 : (S.filter (· ∈ U)).length < U.length
                    · refine itY (by omega) ?_
                      rw [if_pos ⟨c1, c2⟩] at ks'
                      refine ⟨_, rfl, t, rfl, ⟨_, SqL.of hT3⟩, fun D2 hD2 => lc_it walk_list (PvS H3 D2 fun i => sv ((S.take i).filter fun x => x ∉ U)) (pv0 hD2 rfl) (fun i H2 _ q => q.1.seq (SqL.of hT3)) ?_ ?_⟩
                      · rintro i x H5 H4 hi q ⟨rfl, hx⟩
                        obtain ⟨z, hz, rfl⟩ := sv_get hx
                        have st1 := flt S (fun x => x ∉ U) i z hz
                        refine ⟨rfl, _, rfl, _, rfl, u, _, rfl, .inl (SqL.of (q.1 _ _ hU3)), rfl, flat_sv _, _, rfl, ?_⟩
                        rw [if_pos (rfl : true = true), inV_str]
                        by_cases hm : z ∈ U
                        · rw [if_neg (by rw [decide_eq_false (fun h => h hm)]; exact Bool.false_ne_true), List.append_nil] at st1
                          exact ifF (by rw [decide_eq_true hm]; rfl) (q.skip st1)
                        · rw [if_pos (decide_eq_true hm)] at st1
                          exact ifT (by rw [decide_eq_false hm]; rfl) ⟨_, rfl, q.push hD2 st1 (fll S _ i lS)⟩
                      · rintro H5 ⟨s5, h5⟩
                        have h5 : H5 D2 = some (.lst (sv ((S.take (sv S).length).filter fun x => x ∉ U))) := h5
                        rw [len_sv, List.take_length] at h5
                        exact ks' _ rfl D2 H5 (s3.trans s5) (none_of s3 hD2) h5
                    · refine itN (by omega) ?_
                      exact kn' (by rw [if_neg (fun h => c2 h.2)]) H3 s3
                  · refine itN (by omega) (ifF rfl ?_)
                    exact kn' (by rw [if_neg (fun h => c1 h.1)]) H3 s3
        · refine ifT (by rw [ej, decide_eq_false hj]; rfl) ?_
          exact kn' (by rw [if_neg (fun h => hj h.2)]) H (Same.refl _)
      · refine ifT (by rw [ei, decide_eq_false hi]; rfl) (ifT rfl ?_)
        exact kn' (by rw [if_neg (fun h => hi h.1)]) H (Same.refl _)
end
end My
set_option maxRecDepth 100000
set_option maxHeartbeats 4000000
namespace My
open PySem L2
def WD : List Str := ["row", "both", "either", "first", "one", "all"]
theorem good_stranger : Good ("stranger" : Str) := okName_iff.mp (by decide +kernel)
section
variable {P : Program} {w : World} {K : PySem.W.Frag} {mg : Str → Option Value} {base : Heap} {A : Ad}
def spDrawn (K : PySem.W.Frag) : Sp := fun vs H Q _ => ∃ (d k : Int) (n r : Addr) (cs : List Str) (ts : List Addr), vs = [.int d, .int k, .ref n, .ref r] ∧ 0 ≤ k ∧ k ≤ 100 ∧ H n = some (.lst (sv cs)) ∧ (∀ z ∈ cs, Good z) ∧ cs.length ≤ 12 ∧ SqL K H r (ts.map V.ref) ∧ ts.length ≤ 100 ∧
  ∀ (t : Addr) (s : St) H', Same H H' → H' t = some (.tup s.enc) → s.ok → Q (.ref t) H'
theorem ok_drawn (T : Txt P K mg A) : FnOk P w K mg base CX0 1 A.a_law_drawn A.d_law_drawn ["draw", "k", "names", "rows"] (spDrawn K) := by
  refine T.F_law_drawn.ok sc_law_drawn (fun vs H Q E h => ?_) (fun cdv A' outer s H vs Q E hr h => ?_)
  · obtain ⟨d, k, n, r, cs, ts, rfl, _⟩ := h
    rfl
  · obtain ⟨d, k, n, r, cs, ts, rfl, k0, k1, hN, hG, hcl, hR, htl, kk⟩ := h
    refine ⟨_, (pss_cons (ps_set (i := 4) sc_law_drawn.nd rfl (Or.inl rfl) (pe_op op_mod (pe_callTy call_int1 (by rfl) T.n_int (by decide +kernel) (pa_cons (pe_op op_fdiv (pv 0) pe_int) pa_nil)) pe_int))
      (pss_cons (ps_set (i := 5) sc_law_drawn.nd rfl (Or.inl rfl) (pe_op op_mod (pe_callTy call_int1 (by rfl) T.n_int (by decide +kernel) (pa_cons (pe_op op_fdiv (pv 0) pe_int) pa_nil)) pe_int))
      (pss_cons (ps_set (i := 6) sc_law_drawn.nd rfl (Or.inl rfl) (pe_ix ix_list (pe_lst (pa_cons pe_str (pa_cons pe_str (pa_cons pe_str (pa_cons pe_str (pa_cons pe_str (pa_cons pe_str pa_nil))))))) (pe_op op_mod (pe_callTy call_int1 (by rfl) T.n_int (by decide +kernel) (pa_cons (pv 0) pa_nil)) pe_int) (fun _ _ => rfl)))
      (pss_cons (ps_if (pt_cmpR op_eq (pv 6) pe_str (nomark _)) (pss_one (ps_ret (pe_tup (pa_cons (pv 6) (pa_cons (pe_op op_sub (pe_op op_mod (pe_callTy call_int1 (by rfl) T.n_int (by decide +kernel) (pa_cons (pv 4) pa_nil)) (pe_op op_add (pe_callB call_len_seq (by rfl) T.n_len (by decide +kernel) (pa_cons (pv 3) pa_nil)) pe_int)) pe_int) pa_nil))))) pss_nil)
      (pss_cons (ps_if (pt_cmpR op_eq (pv 6) pe_str (nomark _)) (pss_cons (ps_set (i := 7) sc_law_drawn.nd rfl (Or.inl rfl) (pe_op op_cat (pv 2) (pe_lst (pa_cons pe_str pa_nil))))
      (pss_one (ps_ret (pe_tup (pa_cons (pv 6) (pa_cons (pe_ix ix_list (pv 7) (pe_op op_mod (pe_callTy call_int1 (by rfl) T.n_int (by decide +kernel) (pa_cons (pv 4) pa_nil)) (pe_callB call_len_seq (by rfl) T.n_len (by decide +kernel) (pa_cons (pv 7) pa_nil))) (fun _ _ => rfl)) pa_nil)))))) pss_nil)
      (pss_cons (ps_if (pt_cmpR op_eq (pv 6) pe_str (nomark _)) (pss_one (ps_ret (pe_tup (pa_cons (pv 6) pa_nil)))) pss_nil)
      (pss_one (ps_ret (pe_tup (pa_cons (pv 6) (pa_cons (pe_op op_sub (pe_op op_mod (pe_callTy call_int1 (by rfl) T.n_int (by decide +kernel) (pa_cons (pv 4) pa_nil)) (pe_op op_add (pv 1) pe_int)) pe_int) (pa_cons (pe_op op_sub (pe_op op_mod (pe_callTy call_int1 (by rfl) T.n_int (by decide +kernel) (pa_cons (pv 5) pa_nil)) (pe_op op_add (pv 1) pe_int)) pe_int) pa_nil)))))))))))), ?_⟩
    obtain ⟨z, hz, e⟩ := at_sv (ss := WD) (j := d % 6) (Int.emod_nonneg d (by decide)) (Int.emod_lt_of_pos d (show (0 : Int) < 6 by decide))
    have p1 : (0 : Int) < k + 2 := by omega
    have a0 := Int.emod_nonneg (d / 6 % 50) (Int.ne_of_gt p1)
    have a1 := Int.emod_lt_of_pos (d / 6 % 50) p1
    have b0 := Int.emod_nonneg (d / 300 % 92) (Int.ne_of_gt p1)
    have b1 := Int.emod_lt_of_pos (d / 300 % 92) p1
    refine ⟨_, rfl, _, _, rfl, rfl, ⟨by decide, by decide⟩, .inl ⟨_, rfl, _, _, rfl, rfl, by show (0 : Int) < 50; decide, ?_⟩⟩
    refine ⟨_, rfl, _, _, rfl, rfl, ⟨by decide, by decide⟩, .inl ⟨_, rfl, _, _, rfl, rfl, by show (0 : Int) < 92; decide, ?_⟩⟩
    refine ⟨by show 6 ≤ sizeLine; decide, fun l hl => ⟨_, rfl, .inl ⟨_, rfl, _, _, rfl, rfl, by show (0 : Int) < 6; decide, l, _, _, _, rfl, rfl, SqL.of upd_same, e, ?_⟩⟩⟩
    have s1 := same_new (o := .lst (sv WD)) hl
    have fin3 : ∀ z : Str, W3 z → ∀ t, upd H l (.lst (sv WD)) t = none → Q (.ref t) (upd (upd H l (.lst (sv WD))) t (.tup [.str z, .int (d / 6 % 50 % (k + 2) - 1), .int (d / 300 % 92 % (k + 2) - 1)])) := fun z hz t ht =>
      kk t (.bin z (d / 6 % 50 % (k + 2) - 1) (d / 300 % 92 % (k + 2) - 1)) _ (s1.trans (same_new ht)) upd_same ⟨hz, ⟨by omega, by omega⟩, by omega, by omega⟩
    have lt : (ts.map V.ref).length = ts.length := List.length_map ..
    simp only [WD, List.mem_cons, List.not_mem_nil, or_false] at hz
    rcases hz with rfl | rfl | rfl | rfl | rfl | rfl
    · refine ⟨_, rfl, rfl, _, rfl, ifT (sEq rfl) ?_⟩
      have p2 : (0 : Int) < ((ts.map V.ref).length : Int) + 2 := by omega
      refine ⟨_, rfl, _, rfl, .inl ⟨_, rfl, _, rfl, r, _, rfl, .inl (s1.seq hR), _, _, rfl, rfl, _, _, rfl, rfl, p2, _, _, rfl, rfl, by show 2 ≤ sizeLine; decide, fun t ht => ?_⟩⟩
      have c0 := Int.emod_nonneg (d / 6 % 50) (Int.ne_of_gt p2)
      have c1 := Int.emod_lt_of_pos (d / 6 % 50) p2
      exact kk t (.row (d / 6 % 50 % (((ts.map V.ref).length : Int) + 2) - 1)) _ (s1.trans (same_new ht)) upd_same ⟨by omega, by omega⟩
    · refine ⟨_, rfl, rfl, _, rfl, ifF (sNe (by decide +kernel)) ⟨_, rfl, rfl, _, rfl, ifF (sNe (by decide +kernel)) ⟨_, rfl, rfl, _, rfl, ifF (sNe (by decide +kernel)) ?_⟩⟩⟩
      exact ⟨_, rfl, _, rfl, .inl ⟨_, rfl, _, rfl, _, _, rfl, rfl, _, _, rfl, rfl, p1, _, _, rfl, rfl, _, rfl, .inl ⟨_, rfl, _, rfl, _, _, rfl, rfl, _, _, rfl, rfl, p1, _, _, rfl, rfl, by show 3 ≤ sizeLine; decide, fin3 _ (.inl rfl)⟩⟩⟩
    · refine ⟨_, rfl, rfl, _, rfl, ifF (sNe (by decide +kernel)) ⟨_, rfl, rfl, _, rfl, ifF (sNe (by decide +kernel)) ⟨_, rfl, rfl, _, rfl, ifF (sNe (by decide +kernel)) ?_⟩⟩⟩
      exact ⟨_, rfl, _, rfl, .inl ⟨_, rfl, _, rfl, _, _, rfl, rfl, _, _, rfl, rfl, p1, _, _, rfl, rfl, _, rfl, .inl ⟨_, rfl, _, rfl, _, _, rfl, rfl, _, _, rfl, rfl, p1, _, _, rfl, rfl, by show 3 ≤ sizeLine; decide, fin3 _ (.inr (.inl rfl))⟩⟩⟩
    · refine ⟨_, rfl, rfl, _, rfl, ifF (sNe (by decide +kernel)) ⟨_, rfl, rfl, _, rfl, ifF (sNe (by decide +kernel)) ⟨_, rfl, rfl, _, rfl, ifF (sNe (by decide +kernel)) ?_⟩⟩⟩
      exact ⟨_, rfl, _, rfl, .inl ⟨_, rfl, _, rfl, _, _, rfl, rfl, _, _, rfl, rfl, p1, _, _, rfl, rfl, _, rfl, .inl ⟨_, rfl, _, rfl, _, _, rfl, rfl, _, _, rfl, rfl, p1, _, _, rfl, rfl, by show 3 ≤ sizeLine; decide, fin3 _ (.inr (.inr rfl))⟩⟩⟩
    · refine ⟨_, rfl, rfl, _, rfl, ifF (sNe (by decide +kernel)) ⟨_, rfl, rfl, _, rfl, ifT (sEq rfl) ?_⟩⟩
      refine ⟨_, rfl, by show 1 ≤ sizeLine; decide, fun m hm => ?_⟩
      have s2 := s1.trans (same_new (o := .lst [V.str "stranger"]) hm)
      refine ⟨n, m, _, _, rfl, rfl, s2 _ _ hN, upd_same, ?_, fun q hq => ?_⟩
      · refine Nat.le_trans (m := 24) ?_ (by decide)
        rw [len_sv]; show cs.length + 1 ≤ 24; omega
      · have s3 := s2.trans (same_new (o := .lst (sv cs ++ [V.str "stranger"])) hq)
        have el : sv cs ++ [V.str "stranger"] = sv (cs ++ [("stranger" : Str)]) := (sv_snoc' cs ("stranger" : Str)).symm
        have p3 : (0 : Int) < ((sv cs ++ [V.str "stranger"]).length : Nat) := by rw [List.length_append]; show (0 : Int) < (((sv cs).length + 1 : Nat) : Int); omega
        obtain ⟨y, hy, ey⟩ := at_sv (ss := cs ++ [("stranger" : Str)]) (j := d / 6 % 50 % ((sv cs ++ [V.str "stranger"]).length : Nat)) (Int.emod_nonneg _ (Int.ne_of_gt p3)) (by
          have := Int.emod_lt_of_pos (d / 6 % 50) p3
          rw [el, len_sv] at this ⊢; exact this)
        rw [← el] at ey
        refine ⟨_, rfl, _, rfl, _, rfl, .inl ⟨_, rfl, _, rfl, q, _, rfl, .inl (SqL.of upd_same), _, _, rfl, rfl, p3, q, _, _, _, rfl, rfl, SqL.of upd_same, ey, by show 2 ≤ sizeLine; decide, fun t ht => ?_⟩⟩
        refine kk t (.one y) _ (s3.trans (same_new ht)) upd_same ?_
        rcases List.mem_append.mp hy with hy | hy
        · exact hG y hy
        · rw [List.mem_singleton] at hy; rw [hy]; exact good_stranger
    · refine ⟨_, rfl, rfl, _, rfl, ifF (sNe (by decide +kernel)) ⟨_, rfl, rfl, _, rfl, ifF (sNe (by decide +kernel)) ⟨_, rfl, rfl, _, rfl, ifT (sEq rfl) ?_⟩⟩⟩
      exact ⟨_, rfl, by show 1 ≤ sizeLine; decide, fun t ht => kk t .all _ (s1.trans (same_new ht)) upd_same trivial⟩
end
end My
set_option maxRecDepth 100000
set_option maxHeartbeats 4000000
namespace My
open PySem L2
def fullF (rs : List (List Str)) (i : Nat) : Bool := decide (0 < (rs.getD i []).length)
section
variable {P : Program} {w : World} {K : PySem.W.Frag} {mg : Str → Option Value} {base : Heap} {A : Ad}
def spInstead (K : PySem.W.Frag) : Sp := fun vs H Q _ => ∃ (z : Str) (d : Int) (se n r : Addr) (cs : List Str) (sets rs : List (List Str)) (us ts : List Addr), vs = [.str z, .int d, .ref se, .ref n, .ref r] ∧ SqL K H se (us.map V.ref) ∧ Lss .lst H us sets ∧ SqL K H n (sv cs) ∧ SqL K H r (ts.map V.ref) ∧ Lss .lst H ts rs ∧
  (∀ z ∈ cs, Good z) ∧ 0 < cs.length ∧ cs.length ≤ 12 ∧ sets.length ≤ 100 ∧ rs.length ≤ 100 ∧ (∀ S ∈ sets, S.length ≤ 12) ∧ (∀ x ∈ rs, x.length ≤ 1000) ∧ ∀ (t : Addr) (s : St) H', Same H H' → H' t = some (.tup s.enc) → s.ok → Q (.ref t) H'
theorem ok_instead (T : Txt P K mg A) : FnOk P w K mg base CX0 3 A.a_law_instead A.d_law_instead ["word", "draw", "sets", "names", "rows"] (spInstead K) := by
  have G_law_step := ok_lstep (P := P) (w := w) (base := base) T
  refine T.F_law_instead.ok sc_law_instead (fun vs H Q E h => ?_) (fun cdv A' outer s H vs Q E hr h => ?_)
  · obtain ⟨z, d, se, n, r, cs, sets, rs, us, ts, rfl, _⟩ := h
    rfl
  · obtain ⟨z, d, se, n, r, cs, sets, rs, us, ts, rfl, hse, hS, hN, hR, hRs, hG, c0, c12, sl, rl, hS12, hR12, kk⟩ := h
    refine ⟨_, (pss_cons (ps_set (i := 5) sc_law_instead.nd rfl (Or.inl rfl) (pe_callB call_len_seq (by rfl) T.n_len (by decide +kernel) (pa_cons (pv 2) pa_nil)))
      (pss_cons (ps_for PassesOwn.never rfl (pi_range1 (by rfl) T.n_range (pa_cons pe_int pa_nil)) (pg_name (i := 6) sc_law_instead.nd rfl (Or.inl rfl))
        (pss_one (ps_if (PW.pt (pw_and (pt_cmpR op_gt (pv 5) pe_int (nomark _)) (pw_and1 (pt_cmpR op_in_seq (pv 0) (pe_lst (pa_cons pe_str (pa_cons pe_str (pa_cons pe_str pa_nil)))) (by with_unfolding_all rfl))))) (pss_cons (ps_set (i := 7) sc_law_instead.nd rfl (Or.inl rfl) (pe_tup (pa_cons (pv 0) (pa_cons (pe_op op_mod (pe_callTy call_int1 (by rfl) T.n_int (by decide +kernel) (pa_cons (pe_op op_add (pe_op op_fdiv (pv 1) pe_int) (pv 6)) pa_nil)) (pv 5)) (pa_cons (pe_op op_mod (pe_callTy call_int1 (by rfl) T.n_int (by decide +kernel) (pa_cons (pe_op op_add (pe_op op_fdiv (pv 1) pe_int) (pe_op op_mul (pv 6) pe_int)) pa_nil)) (pv 5)) pa_nil)))))
      (pss_one (ps_if (pt_cmpR op_notN (pe_call G_law_step (hr.mono (by decide)) rfl T.mg_law_step T.F_law_step.kp T.b_law_step .nil pass0 (pa_cons (pv 7) (pa_cons (pv 2) (pa_cons (pv 3) (pa_cons (pv 4) pa_nil))))) pe_non (nomark _)) (pss_one (ps_ret (pv 7))) pss_nil))) pss_nil)))
      (pss_cons (ps_setLc (i := 8) (own := [("i", 9)]) (g := gName 9) (tt := _) rfl sc_law_instead.nd rfl rfl (sw_true rfl rfl rfl (by decide +kernel)) (pi_range1 (by rfl) T.n_range (pa_cons (pe_callB call_len_seq (by rfl) T.n_len (by decide +kernel) (pa_cons (pv 4) pa_nil)) pa_nil)) (blkOk_by (N := ["word", "draw", "sets", "names", "rows", "many", "k", "step", "full", "i"]) (sc := defScope s_law_instead) (by decide +kernel)) (fun _ _ _ _ _ => (pg_name (i := 9) sc_law_instead.nd rfl (Or.inl rfl))) (fun _ _ _ _ _ => (pts_one (pt_cmpR op_gt (pe_callB (show CallR _ _ (rLen2 K) from call_len_seq) (by rfl) T.n_len (by decide +kernel) (pa_cons (pe_ix (show IxR _ (rIxL K) from ix_list) (pv 4) (pv 9) (fun _ _ => rfl)) pa_nil)) pe_int (nomark _)))) (fun _ _ _ _ _ => (pv 9)))
      (pss_cons (ps_if (PW.pt (pw_and (pt_cmpR op_gt (pe_callB call_len_seq (by rfl) T.n_len (by decide +kernel) (pa_cons (pv 8) pa_nil)) pe_int (nomark _)) (pw_and1 (pt_cmpR op_gt (pe_op op_mod (pe_callTy call_int1 (by rfl) T.n_int (by decide +kernel) (pa_cons (pv 1) pa_nil)) pe_int) pe_int (nomark _))))) (pss_one (ps_ret (pe_tup (pa_cons pe_str (pa_cons (pe_ix ix_list (pv 8) (pe_op op_mod (pe_callTy call_int1 (by rfl) T.n_int (by decide +kernel) (pa_cons (pe_op op_fdiv (pv 1) pe_int) pa_nil)) (pe_callB call_len_seq (by rfl) T.n_len (by decide +kernel) (pa_cons (pv 8) pa_nil))) (fun _ _ => rfl)) pa_nil))))) pss_nil)
      (pss_one (ps_ret (pe_tup (pa_cons pe_str (pa_cons (pe_ix ix_list (pv 3) (pe_op op_mod (pe_callTy call_int1 (by rfl) T.n_int (by decide +kernel) (pa_cons (pe_op op_fdiv (pv 1) pe_int) pa_nil)) (pe_callB call_len_seq (by rfl) T.n_len (by decide +kernel) (pa_cons (pv 3) pa_nil))) (fun _ _ => rfl)) pa_nil))))))))), ?_⟩
    have lu : (us.map V.ref).length = sets.length := by rw [List.length_map, hS.len]
    have lt : (ts.map V.ref).length = rs.length := by rw [List.length_map, hRs.len]
    refine ⟨_, rfl, se, _, rfl, .inl hse, ?_⟩
    refine ⟨_, rfl, by decide, by decide, for_range (n := (8 : Int).toNat) (fun i σ H2 => Same H H2 ∧ ∃ u1 u2 : Option V, σ = [some (.str z), some (.int d), some (.ref se), some (.ref n), some (.ref r), some (.int ((us.map V.ref).length : Nat)), u1, u2, none, none]) ⟨Same.refl _, none, none, rfl⟩ ?_ ?_⟩
    · rintro i σ H2 hi ⟨sm, u1, u2, rfl⟩
      refine ⟨_, rfl, _, _, rfl, rfl, _, rfl, ite2 (fun hb => ?_) (fun hb => ifF rfl ⟨sm, _, _, rfl⟩)⟩
      have hp : (0 : Int) < ((us.map V.ref).length : Nat) := of_decide_eq_true hb
      refine ⟨_, rfl, by show 3 ≤ sizeLine; decide, fun l hl => ⟨l, _, rfl, .inl (SqL.of upd_same), rfl, flat_sv [("both" : Str), "either", "first"], _, rfl, ?_⟩⟩
      have s1 := sm.trans (same_new (o := .lst (sv [("both" : Str), "either", "first"])) hl)
      rw [if_neg Bool.false_ne_true]
      rw [show inV (.str z) [V.str "both", .str "either", .str "first"] = decide (z ∈ [("both" : Str), "either", "first"]) from inV_str z [("both" : Str), "either", "first"]]
      by_cases hw : z ∈ [("both" : Str), "either", "first"]
      · refine ifT (decide_eq_true hw) ?_
        have hw3 : W3 z := by
          simp only [List.mem_cons, List.not_mem_nil, or_false] at hw
          exact hw
        refine ⟨_, rfl, _, rfl, _, _, rfl, rfl, ⟨by decide, by decide⟩, _, rfl, _, _, rfl, rfl, .inl ⟨_, rfl, _, rfl, _, _, rfl, rfl, hp, _, rfl, _, _, rfl, rfl, ⟨by decide, by decide⟩, _, rfl, _, _, rfl, rfl, .inr (by decide), _, _, rfl, rfl, .inl ⟨_, rfl, _, rfl, _, _, rfl, rfl, hp, by show 3 ≤ sizeLine; decide, fun t ht => ?_⟩⟩⟩
        have a0 := Int.emod_nonneg (d / 9 + (0 + (i : Int))) (Int.ne_of_gt hp)
        have a1 := Int.emod_lt_of_pos (d / 9 + (0 + (i : Int))) hp
        have b0 := Int.emod_nonneg (d / 360 + (0 + (i : Int)) * 3) (Int.ne_of_gt hp)
        have b1 := Int.emod_lt_of_pos (d / 360 + (0 + (i : Int)) * 3) hp
        have okS : (St.bin z ((d / 9 + (0 + (i : Int))) % ((us.map V.ref).length : Nat)) ((d / 360 + (0 + (i : Int)) * 3) % ((us.map V.ref).length : Nat))).ok := ⟨hw3, ⟨by omega, by rw [lu] at a1 ⊢; omega⟩, by omega, by rw [lu] at b1 ⊢; omega⟩
        have s2 := s1.trans (same_new (o := .tup (St.bin z ((d / 9 + (0 + (i : Int))) % ((us.map V.ref).length : Nat)) ((d / 360 + (0 + (i : Int)) * 3) % ((us.map V.ref).length : Nat))).enc) ht)
        refine ⟨_, rfl, _, rfl, _, rfl, _, rfl, t, se, n, r, St.bin z ((d / 9 + (0 + (i : Int))) % ((us.map V.ref).length : Nat)) ((d / 360 + (0 + (i : Int)) * 3) % ((us.map V.ref).length : Nat)), cs, sets, rs, us, ts, rfl, upd_same, s2.seq hse, hS.same s2, s2.seq hN, s2.seq hR, hRs.same s2, okS, c12, sl, rl, hS12, fun _ H3 s3 => ?_, fun S _ a H3 s3 ha0 ha => ?_⟩
        · exact ⟨rfl, _, rfl, itNe rfl ⟨s2.trans s3, _, _, rfl⟩⟩
        · exact ⟨rfl, _, rfl, itNeN (fun z => nomatch z) ⟨_, rfl, kk t _ H3 (s2.trans s3) (s3 _ _ upd_same) okS⟩⟩
      · refine ifF (decide_eq_false hw) ?_
        exact ⟨s1, _, _, rfl⟩
    · rintro σ H2 ⟨sm, u1, u2, rfl⟩
      have e1 : (((ts.map V.ref).length : Nat) : Int).toNat = rs.length := by rw [lt, Int.toNat_natCast]
      refine ⟨_, rfl, r, _, rfl, .inl (sm.seq hR), _, rfl, by rw [lt]; omega, by rw [lt]; omega, fun D hD => lc_range (n := (((ts.map V.ref).length : Nat) : Int).toNat) (PvS H2 D fun i => niv ((List.range i).filter (fullF rs))) (pv0 hD rfl) ?_ ?_⟩
      · rintro i H4 hi q
        rw [e1] at hi
        have hi0 : (0 : Int) + (i : Int) = (i : Int) := by omega
        obtain ⟨t, x, et, ex, hx⟩ := hRs.ex hi
        have s4 := sm.trans q.1
        have at_ : atI (ts.map V.ref) (0 + (i : Int)) = some (V.ref t) := by rw [hi0]; exact atR_of et
        have hf : fullF rs i = decide (0 < x.length) := by unfold fullF; rw [getD_of ex]
        have stepT : fullF rs i = true → niv ((List.range (i + 1)).filter (fullF rs)) = niv ((List.range i).filter (fullF rs)) ++ [V.int (0 + (i : Int))] := fun h => by
          unfold niv
          rw [List.range_succ, List.filter_append, List.map_append, List.filter_cons_of_pos h, hi0]; rfl
        have stepF : fullF rs i = false → niv ((List.range (i + 1)).filter (fullF rs)) = niv ((List.range i).filter (fullF rs)) := fun h => by
          unfold niv
          rw [List.range_succ, List.filter_append, List.map_append, List.filter_cons_of_neg (by rw [h]; decide)]; simp
        have hl : (niv ((List.range i).filter (fullF rs))).length ≤ 1000000 := by
          have := List.length_filter_le (fullF rs) (List.range i)
          rw [List.length_range] at this
          rw [len_niv]; omega
        refine ⟨rfl, _, rfl, _, rfl, r, _, _, _, rfl, rfl, s4.seq hR, at_, t, _, rfl, .inl (SqL.of (s4 _ _ hx)), _, _, rfl, rfl, _, rfl, ?_⟩
        rw [len_sv]
        by_cases h0 : 0 < x.length
        · exact itY (by omega) ⟨_, rfl, q.push hD (stepT (hf.trans (decide_eq_true h0))) hl⟩
        · exact itN (by omega) (q.skip (stepF (hf.trans (decide_eq_false h0))))
      · rintro H4 ⟨s4', h4⟩
        have h4 : H4 D = some (.lst (niv ((List.range (((ts.map V.ref).length : Nat) : Int).toNat).filter (fullF rs)))) := h4
        rw [e1] at h4
        have s4 := sm.trans s4'
        have fb : ∀ x ∈ (List.range rs.length).filter (fullF rs), x < rs.length := fun x hx => List.mem_range.mp (List.mem_filter.mp hx).1
        generalize (List.range rs.length).filter (fullF rs) = F at h4 fb
        have pn : (0 : Int) < ((sv cs).length : Nat) := by rw [len_sv]; omega
        obtain ⟨y, hy, ey⟩ := at_sv (ss := cs) (j := d / 9 % ((sv cs).length : Nat)) (Int.emod_nonneg _ (Int.ne_of_gt pn)) (by
          have := Int.emod_lt_of_pos (d / 9) pn
          rw [len_sv] at this ⊢; exact this)
        refine ⟨_, rfl, D, _, rfl, .inl (SqL.of h4), _, _, rfl, rfl, _, rfl, ite2 (fun hb => ?_) (fun hb => ifF rfl ?_)⟩
        · have hp : (0 : Int) < ((niv F).length : Nat) := of_decide_eq_true hb
          refine ⟨_, rfl, .inl ⟨_, rfl, _, _, rfl, rfl, by show (0 : Int) < 3; decide, _, _, rfl, rfl, _, rfl, ite2 (fun hb2 => ?_) (fun hb2 => ?_)⟩⟩
          · have a0 := Int.emod_nonneg (d / 9) (Int.ne_of_gt hp)
            have a1 := Int.emod_lt_of_pos (d / 9) hp
            obtain ⟨j, hj⟩ := Int.eq_ofNat_of_zero_le a0
            have hj2 : j < F.length := by rw [hj, len_niv] at a1; omega
            have hFj := fb _ (List.getElem_mem hj2)
            have ea : atI (niv F) (d / 9 % ((niv F).length : Nat)) = some (V.int ((F.getD j 0 : Nat) : Int)) := by rw [hj]; exact niv_at hj2
            rw [getD_of (List.getElem?_eq_getElem hj2)] at ea
            exact ⟨_, rfl, _, rfl, _, _, rfl, rfl, ⟨by decide, by decide⟩, .inl ⟨_, rfl, _, rfl, D, _, rfl, .inl (SqL.of h4), _, _, rfl, rfl, hp, D, _, _, _, rfl, rfl, SqL.of h4, ea, by show 2 ≤ sizeLine; decide, fun t ht => kk t (.row (F[j] : Nat)) _ (s4.trans (same_new ht)) upd_same ⟨by omega, by omega⟩⟩⟩
          · exact ⟨_, rfl, _, rfl, _, _, rfl, rfl, ⟨by decide, by decide⟩, .inl ⟨_, rfl, _, rfl, n, _, rfl, .inl (s4.seq hN), _, _, rfl, rfl, pn, n, _, _, _, rfl, rfl, s4.seq hN, ey, by show 2 ≤ sizeLine; decide, fun t ht => kk t (.one y) _ (s4.trans (same_new ht)) upd_same (hG y hy)⟩⟩
        · exact ⟨_, rfl, _, rfl, _, _, rfl, rfl, ⟨by decide, by decide⟩, .inl ⟨_, rfl, _, rfl, n, _, rfl, .inl (s4.seq hN), _, _, rfl, rfl, pn, n, _, _, _, rfl, rfl, s4.seq hN, ey, by show 2 ≤ sizeLine; decide, fun t ht => kk t (.one y) _ (s4.trans (same_new ht)) upd_same (hG y hy)⟩⟩
end
end My
set_option maxRecDepth 100000
set_option maxHeartbeats 4000000
namespace My
open PySem L2
/-- what a found pair is -/
def PairOk (sets : List (List Str)) (nested : Bool) (i j : Nat) : Prop := i < sets.length ∧ j < sets.length ∧
  (if nested = true then ((sets.getD i []).filter (· ∈ sets.getD j [])).length = (sets.getD j []).length else ((sets.getD i []).filter (· ∈ sets.getD j [])) = [])
section
variable {P : Program} {w : World} {K : PySem.W.Frag} {mg : Str → Option Value} {base : Heap} {A : Ad}
def spPair (K : PySem.W.Frag) : Sp := fun vs H Q _ => ∃ (se : Addr) (b : Bool) (sets : List (List Str)) (us : List Addr), vs = [.ref se, .bl b] ∧ SqL K H se (us.map V.ref) ∧ Lss .lst H us sets ∧ sets.length ≤ 100 ∧ (∀ S ∈ sets, S.length ≤ 12) ∧
  ∀ (t : Addr) (i j : Nat) H', Same H H' → H' t = some (.tup [.int (i : Nat), .int (j : Nat)]) → (PairOk sets b i j ∨ (i = 0 ∧ j = sets.length)) → Q (.ref t) H'
theorem ok_pair (T : Txt P K mg A) : FnOk P w K mg base CX0 1 A.a_law_pair A.d_law_pair ["sets", "nested"] (spPair K) := by
  refine T.F_law_pair.ok sc_law_pair (fun vs H Q E h => ?_) (fun cdv A' outer s H vs Q E hr h => ?_)
  · obtain ⟨se, b, sets, us, rfl, _⟩ := h
    rfl
  · obtain ⟨se, b, sets, us, rfl, hse, hS, sl, hS12, kk⟩ := h
    refine ⟨_, (pss_cons (ps_set (i := 2) sc_law_pair.nd rfl (Or.inl rfl) (pe_callB call_len_seq (by rfl) T.n_len (by decide +kernel) (pa_cons (pv 0) pa_nil)))
      (pss_cons (ps_for PassesOwn.never rfl (pi_range2 (by rfl) T.n_range (pa_cons (pe_callB (call_max2 rfl) (by rfl) T.n_max (by decide +kernel) (pa_cons pe_int (pa_cons (pe_op op_sub (pv 2) pe_int) pa_nil))) (pa_cons (pv 2) pa_nil))) (pg_name (i := 3) sc_law_pair.nd rfl (Or.inl rfl))
        (pss_one (ps_for PassesOwn.never rfl (pi_range2 (by rfl) T.n_range (pa_cons (pe_callB (call_max2 rfl) (by rfl) T.n_max (by decide +kernel) (pa_cons pe_int (pa_cons (pe_op op_sub (pv 2) pe_int) pa_nil))) (pa_cons (pv 2) pa_nil))) (pg_name (i := 4) sc_law_pair.nd rfl (Or.inr rfl))
        (pss_cons (ps_setLc (i := 5) (own := [("name", 6)]) (g := gName 6) (tt := _) rfl sc_law_pair.nd rfl rfl (sw_true rfl rfl rfl (by decide +kernel)) (pi_list (pe_ix ix_list (pv 0) (pv 3) (fun _ _ => rfl))) (blkOk_by (N := ["sets", "nested", "many", "i", "j", "both", "name"]) (sc := defScope s_law_pair) (by decide +kernel)) (fun _ _ _ _ _ => (pg_name (i := 6) sc_law_pair.nd rfl (Or.inl rfl))) (fun _ _ _ _ _ => (pts_one (pt_cmpR (show OpR _ _ (rIn K false) from op_in_seq) (pv 6) (pe_ix (show IxR _ (rIxL K) from ix_list) (pv 0) (pv 4) (fun _ _ => rfl)) (by with_unfolding_all rfl)))) (fun _ _ _ _ _ => (pv 6)))
      (pss_cons (ps_if (PW.pt (pw_and (pt_val (pv 1)) (pw_and (pt_cmpR op_eq (pe_callB call_len_seq (by rfl) T.n_len (by decide +kernel) (pa_cons (pv 5) pa_nil)) (pe_callB call_len_seq (by rfl) T.n_len (by decide +kernel) (pa_cons (pe_ix ix_list (pv 0) (pv 4) (fun _ _ => rfl)) pa_nil)) (nomark _)) (pw_and1 (pt_cmpR op_lt (pe_callB call_len_seq (by rfl) T.n_len (by decide +kernel) (pa_cons (pv 5) pa_nil)) (pe_callB call_len_seq (by rfl) T.n_len (by decide +kernel) (pa_cons (pe_ix ix_list (pv 0) (pv 3) (fun _ _ => rfl)) pa_nil)) (nomark _)))))) (pss_one (ps_ret (pe_tup (pa_cons (pv 3) (pa_cons (pv 4) pa_nil))))) pss_nil)
      (pss_one (ps_if (PW.pt (pw_and (pt_not (pt_val (pv 1))) (pw_and1 (pt_cmpR op_eq (pe_callB call_len_seq (by rfl) T.n_len (by decide +kernel) (pa_cons (pv 5) pa_nil)) pe_int (nomark _))))) (pss_one (ps_ret (pe_tup (pa_cons (pv 3) (pa_cons (pv 4) pa_nil))))) pss_nil)))))))
      (pss_one (ps_ret (pe_tup (pa_cons pe_int (pa_cons (pv 2) pa_nil))))))), ?_⟩
    have lu : (us.map V.ref).length = sets.length := by rw [List.length_map, hS.len]
    refine ⟨_, rfl, se, _, rfl, .inl hse, ?_⟩
    obtain ⟨lo, hlo⟩ : ∃ lo : Int, lo = (if (((us.map V.ref).length : Nat) : Int) - 7 > 0 then (((us.map V.ref).length : Nat) : Int) - 7 else 0) := ⟨_, rfl⟩
    have l0 : 0 ≤ lo := by rw [hlo]; split <;> omega
    have l1 : lo ≤ sets.length := by rw [hlo, lu]; split <;> omega
    refine ⟨_, rfl, _, _, rfl, rfl, _, _, rfl, ?_⟩
    rw [← hlo]
    refine ⟨_, rfl, _, _, rfl, ⟨by omega, by omega, by rw [lu]; omega, by rw [lu]; omega⟩, for_range (n := ((((us.map V.ref).length : Nat) : Int) - lo).toNat) (fun i σ H2 => Same H H2 ∧ ∃ u1 u2 u3 : Option V, σ = [some (.ref se), some (.bl b), some (.int ((us.map V.ref).length : Nat)), u1, u2, u3, none]) ⟨Same.refl _, none, none, none, rfl⟩ ?_ ?_⟩
    · rintro i σ H2 hi ⟨sm, u1, u2, u3, rfl⟩
      refine ⟨_, rfl, _, _, rfl, rfl, _, _, rfl, ?_⟩
      rw [← hlo]
      refine ⟨_, rfl, _, _, rfl, ⟨by omega, by omega, by rw [lu]; omega, by rw [lu]; omega⟩, for_range (n := ((((us.map V.ref).length : Nat) : Int) - lo).toNat) (fun j σ H2 => Same H H2 ∧ ∃ u2 u3 : Option V, σ = [some (.ref se), some (.bl b), some (.int ((us.map V.ref).length : Nat)), some (.int (lo + (i : Int))), u2, u3, none]) ⟨sm, _, _, rfl⟩ ?_ ?_⟩
      · rintro j σ H2 hj ⟨sm, u2, u3, rfl⟩
        obtain ⟨i', hi'⟩ := Int.eq_ofNat_of_zero_le (show 0 ≤ lo + (i : Int) by omega)
        obtain ⟨j', hj'⟩ := Int.eq_ofNat_of_zero_le (show 0 ≤ lo + (j : Int) by omega)
        have hi2 : i' < sets.length := by rw [lu] at hi; omega
        have hj2 : j' < sets.length := by rw [lu] at hj; omega
        obtain ⟨t, S, et, eS, hT0⟩ := hS.ex hi2
        obtain ⟨u, U, eu, eU, hU0⟩ := hS.ex hj2
        have lS := hS12 S (List.mem_of_getElem? eS)
        have hT1 := sm _ _ hT0
        have hU1 := sm _ _ hU0
        have hse2 := sm.seq hse
        have atT : atI (us.map V.ref) (lo + (i : Int)) = some (V.ref t) := by rw [hi']; exact atR_of et
        have atU : atI (us.map V.ref) (lo + (j : Int)) = some (V.ref u) := by rw [hj']; exact atR_of eu
        have flt : ∀ (i : Nat) (z : Str), S[i]? = some z → sv ((S.take (i + 1)).filter (· ∈ U)) = sv ((S.take i).filter (· ∈ U)) ++ (if decide (z ∈ U) = true then [V.str z] else []) := fun i z hz => by
          rw [take_succ hz, List.filter_append, ← sv_app]
          congr 1
          rw [List.filter_cons]
          split <;> rfl
        have fll : ∀ (i : Nat), (sv ((S.take i).filter (· ∈ U))).length ≤ 1000000 := fun i => by
          have := List.length_filter_le (· ∈ U) (S.take i)
          rw [List.length_take] at this
          rw [len_sv]; omega
        refine ⟨_, rfl, _, rfl, se, _, _, _, rfl, rfl, hse2, atT, t, rfl, ⟨_, SqL.of hT1⟩, fun D hD => lc_it walk_list (PvS H2 D fun i => sv ((S.take i).filter (· ∈ U))) (pv0 hD rfl) (fun i H2 _ q => q.1.seq (SqL.of hT1)) ?_ ?_⟩
        · rintro k x H3 H4 hk q ⟨rfl, hx⟩
          obtain ⟨z, hz, rfl⟩ := sv_get hx
          have st1 := flt k z hz
          refine ⟨rfl, _, rfl, _, rfl, _, rfl, se, _, _, _, rfl, rfl, q.1.seq hse2, atU, u, _, rfl, .inl (SqL.of (q.1 _ _ hU1)), rfl, flat_sv _, _, rfl, ?_⟩
          rw [if_neg Bool.false_ne_true, inV_str]
          by_cases hm : z ∈ U
          · rw [if_pos (decide_eq_true hm)] at st1
            exact ifT (decide_eq_true hm) ⟨_, rfl, q.push hD st1 (fll k)⟩
          · rw [if_neg (by rw [decide_eq_false hm]; exact Bool.false_ne_true), List.append_nil] at st1
            exact ifF (decide_eq_false hm) (q.skip st1)
        · rintro H3 ⟨s3, h3⟩
          have h3 : H3 D = some (.lst (sv ((S.take (sv S).length).filter (· ∈ U)))) := h3
          rw [len_sv, List.take_length] at h3
          have hT3 := s3 _ _ hT1
          have hU3 := s3 _ _ hU1
          have s4 := sm.trans s3
          have hse3 := s3.seq hse2
          have ret : PairOk sets b i' j' → ∀ t, H3 t = none → Q (.ref t) (upd H3 t (.tup [.int (lo + (i : Int)), .int (lo + (j : Int))])) := fun hok t ht => by
            refine kk t i' j' _ (s4.trans (same_new ht)) ?_ (.inl hok)
            rw [hi', hj']; exact upd_same
          cases b with
          | true =>
            refine ⟨_, rfl, _, rfl, ifT rfl ?_⟩
            refine ⟨_, rfl, D, _, rfl, .inl (SqL.of h3), _, rfl, _, rfl, se, _, _, _, rfl, rfl, hse3, atU, u, _, rfl, .inl (SqL.of hU3), rfl, _, rfl, ?_⟩
            rw [len_sv, len_sv]
            by_cases c1 : (S.filter (· ∈ U)).length = U.length
            · refine ifT (iEq (by omega)) ?_
              refine ⟨_, rfl, D, _, rfl, .inl (SqL.of h3), _, rfl, _, rfl, se, _, _, _, rfl, rfl, hse3, atT, t, _, rfl, .inl (SqL.of hT3), _, _, rfl, rfl, _, rfl, ite2 (fun hb => ?_) (fun hb => ?_)⟩
              · refine ⟨_, rfl, _, rfl, by show 2 ≤ sizeLine; decide, ret ⟨hi2, hj2, ?_⟩⟩
                rw [if_pos rfl, getD_of eS, getD_of eU]; exact c1
              · refine ⟨_, rfl, _, rfl, ifF rfl ?_⟩
                exact ⟨s4, _, _, rfl⟩
            · refine ifF (iNe (by omega)) (ifF rfl ?_)
              refine ⟨_, rfl, _, rfl, ifF rfl ?_⟩
              exact ⟨s4, _, _, rfl⟩
          | false =>
            refine ⟨_, rfl, _, rfl, ifF rfl (ifF rfl ?_)⟩
            refine ⟨_, rfl, _, rfl, ifT rfl ?_⟩
            refine ⟨_, rfl, D, _, rfl, .inl (SqL.of h3), rfl, _, rfl, ?_⟩
            rw [len_sv]
            by_cases c1 : S.filter (· ∈ U) = []
            · refine ifT (by rw [c1]; rfl) ?_
              refine ⟨_, rfl, _, rfl, by show 2 ≤ sizeLine; decide, ret ⟨hi2, hj2, ?_⟩⟩
              rw [if_neg Bool.false_ne_true, getD_of eS, getD_of eU]; exact c1
            · refine ifF (iNe (by have := List.length_pos_iff.mpr c1; omega)) ?_
              exact ⟨s4, _, _, rfl⟩
      · rintro σ H2 ⟨sm, u2, u3, rfl⟩
        exact ⟨sm, _, _, _, rfl⟩
    · rintro σ H2 ⟨sm, u1, u2, u3, rfl⟩
      refine ⟨_, rfl, by show 2 ≤ sizeLine; decide, fun t ht => ?_⟩
      refine kk t 0 sets.length _ (sm.trans (same_new ht)) ?_ (.inr ⟨rfl, rfl⟩)
      rw [← lu]; exact upd_same
end
end My
set_option maxRecDepth 100000
set_option maxHeartbeats 4000000
namespace My
open PySem L2
theorem none_far {cs : List Str} {rs sets : List (List Str)} {z : Str} {i j : Int} (h : ¬ ((0 ≤ i ∧ i < sets.length) ∧ (0 ≤ j ∧ j < sets.length))) : stepM cs rs sets (.bin z i j) = none := by
  show (if _ then _ else _) = _
  rw [if_neg h]
theorem none_row {cs : List Str} {rs sets : List (List Str)} {z : Int} (h : ¬ (0 ≤ z ∧ z < rs.length)) : stepM cs rs sets (.row z) = none := by
  show (if _ then _ else _) = _
  rw [if_neg h]
theorem none_pair {cs : List Str} {rs sets : List (List Str)} {z : Str} {i j : Nat} {b : Bool} (h : PairOk sets b i j ∨ (i = 0 ∧ j = sets.length)) (hz : b = true → z ≠ "both" ∧ z ≠ "either") : stepM cs rs sets (.bin z (i : Nat) (j : Nat)) = none := by
  rcases h with ⟨hi, hj, hp⟩ | ⟨rfl, rfl⟩
  · show (if _ then _ else _) = _
    rw [if_pos ⟨⟨by omega, by omega⟩, by omega, by omega⟩, Int.toNat_natCast, Int.toNat_natCast]
    unfold joinM
    cases b with
    | true =>
      rw [if_pos rfl] at hp
      split
      · rfl
      · rw [if_neg (hz rfl).1, if_neg (hz rfl).2, if_neg (by rw [hp]; omega)]
    | false =>
      rw [if_neg Bool.false_ne_true] at hp
      rw [if_pos hp]
  · exact none_far (by omega)
theorem none_same {cs : List Str} {rs sets : List (List Str)} {z : Str} (hz : z ≠ "both" ∧ z ≠ "either") : stepM cs rs sets (.bin z 0 0) = none := by
  show (if _ then _ else _) = _
  split
  · unfold joinM
    have e : (sets.getD (0 : Int).toNat []).filter (· ∈ sets.getD (0 : Int).toNat []) = sets.getD (0 : Int).toNat [] := by
      rw [List.filter_eq_self]; intro x hx; exact decide_eq_true hx
    split
    · rfl
    · rw [if_neg hz.1, if_neg hz.2, e, if_neg (by omega)]
  · rfl
section
variable {P : Program} {w : World} {K : PySem.W.Frag} {mg : Str → Option Value} {base : Heap} {A : Ad}
def spBad (K : PySem.W.Frag) : Sp := fun vs H Q _ => ∃ (d : Int) (se r : Addr) (cs : List Str) (sets rs : List (List Str)) (us ts : List Addr), vs = [.int d, .ref se, .ref r] ∧ SqL K H se (us.map V.ref) ∧ Lss .lst H us sets ∧ sets.length ≤ 100 ∧ (∀ S ∈ sets, S.length ≤ 12) ∧ SqL K H r (ts.map V.ref) ∧ ts.length = rs.length ∧ rs.length ≤ 100 ∧ ("stranger" : Str) ∉ cs ∧
  ∀ (t : Addr) (s : St) H', Same H H' → H' t = some (.tup s.enc) → s.ok → stepM cs rs sets s = none → Q (.ref t) H'
theorem ok_bad (T : Txt P K mg A) : FnOk P w K mg base CX0 2 A.a_law_bad A.d_law_bad ["draw", "sets", "rows"] (spBad K) := by
  have G_law_pair := ok_pair (P := P) (w := w) (base := base) T
  refine T.F_law_bad.ok sc_law_bad (fun vs H Q E h => ?_) (fun cdv A' outer s H vs Q E hr h => ?_)
  · obtain ⟨d, se, r, cs, sets, rs, us, ts, rfl, _⟩ := h
    rfl
  · obtain ⟨d, se, r, cs, sets, rs, us, ts, rfl, hse, hS, sl, hS12, hR, hts, rl, hst, kk⟩ := h
    refine ⟨_, (pss_cons (ps_set (i := 3) sc_law_bad.nd rfl (Or.inl rfl) (pe_callB call_len_seq (by rfl) T.n_len (by decide +kernel) (pa_cons (pv 1) pa_nil)))
      (pss_cons (ps_set (i := 4) sc_law_bad.nd rfl (Or.inl rfl) (pe_lst (pa_cons (pe_tup (pa_cons pe_str (pa_cons (pv 3) (pa_cons pe_int pa_nil)))) (pa_cons (pe_tup (pa_cons pe_str (pa_cons pe_int (pa_cons (pv 3) pa_nil)))) (pa_cons (pe_tup (pa_cons pe_str (pa_cons (pe_callB call_len_seq (by rfl) T.n_len (by decide +kernel) (pa_cons (pv 2) pa_nil)) pa_nil))) (pa_cons (pe_tup (pa_cons pe_str (pa_cons pe_str pa_nil))) (pa_cons (pe_tup (pa_cons pe_str (pa_cons pe_int (pa_cons pe_int pa_nil)))) pa_nil)))))))
      (pss_cons (ps_set (i := 4) sc_law_bad.nd rfl (Or.inl rfl) (pe_op op_cat (pv 4) (pe_lst (pa_cons (pe_tup (pa_cons pe_str (pa_cons (pe_un un_neg pe_int) pa_nil))) (pa_cons (pe_tup (pa_cons pe_str (pa_cons (pe_un un_neg pe_int) (pa_cons pe_int pa_nil)))) (pa_cons (pe_op op_catT (pe_tup (pa_cons pe_str pa_nil)) (pe_call G_law_pair (hr.mono (by decide)) rfl T.mg_law_pair T.F_law_pair.kp T.b_law_pair .nil pass0 (pa_cons (pv 1) (pa_cons pe_bl pa_nil)))) pa_nil))))))
      (pss_cons (ps_set (i := 4) sc_law_bad.nd rfl (Or.inl rfl) (pe_op op_cat (pv 4) (pe_lst (pa_cons (pe_op op_catT (pe_tup (pa_cons pe_str pa_nil)) (pe_call G_law_pair (hr.mono (by decide)) rfl T.mg_law_pair T.F_law_pair.kp T.b_law_pair .nil pass0 (pa_cons (pv 1) (pa_cons pe_bl pa_nil)))) (pa_cons (pe_op op_catT (pe_tup (pa_cons pe_str pa_nil)) (pe_call G_law_pair (hr.mono (by decide)) rfl T.mg_law_pair T.F_law_pair.kp T.b_law_pair .nil pass0 (pa_cons (pv 1) (pa_cons pe_bl pa_nil)))) pa_nil)))))
      (pss_one (ps_ret (pe_ix ix_list (pv 4) (pe_op op_mod (pe_callTy call_int1 (by rfl) T.n_int (by decide +kernel) (pa_cons (pv 0) pa_nil)) pe_int) (fun _ _ => rfl)))))))), ?_⟩
    have lu : (us.map V.ref).length = sets.length := by rw [List.length_map, hS.len]
    have lt : (ts.map V.ref).length = rs.length := by rw [List.length_map, hts]
    refine ⟨_, rfl, se, _, rfl, .inl hse, ?_⟩
    rw [lu]
    refine ⟨_, rfl, by show 3 ≤ sizeLine; decide, fun t1 h1 => ?_⟩
    have s1 := same_new (o := .tup [V.str "both", .int (sets.length : Nat), .int 0]) h1
    have S1 := (Sts.nil (H := upd H t1 (.tup [V.str "both", .int (sets.length : Nat), .int 0]))).app (s := St.bin "both" (sets.length : Nat) 0) upd_same
    generalize upd H t1 _ = H1 at s1 S1 ⊢
    refine ⟨_, rfl, by show 3 ≤ sizeLine; decide, fun t2 h2 => ?_⟩
    have q2 := same_new (o := .tup [V.str "either", .int 0, .int (sets.length : Nat)]) h2
    have s2 := s1.trans q2
    have S2 := (S1.same q2).app (s := St.bin "either" 0 (sets.length : Nat)) upd_same
    generalize upd H1 t2 _ = H2 at s2 q2 S2 ⊢
    refine ⟨_, rfl, r, _, rfl, .inl (s2.seq hR), by show 2 ≤ sizeLine; decide, fun t3 h3 => ?_⟩
    rw [lt] at *
    have q3 := same_new (o := .tup [V.str "row", .int (rs.length : Nat)]) h3
    have s3 := s2.trans q3
    have S3 := (S2.same q3).app (s := St.row (rs.length : Nat)) upd_same
    generalize upd H2 t3 _ = H3 at s3 q3 S3 ⊢
    refine ⟨by show 2 ≤ sizeLine; decide, fun t4 h4 => ?_⟩
    have q4 := same_new (o := .tup [V.str "one", .str "stranger"]) h4
    have s4 := s3.trans q4
    have S4 := (S3.same q4).app (s := St.one "stranger") upd_same
    generalize upd H3 t4 _ = H4 at s4 q4 S4 ⊢
    refine ⟨by show 3 ≤ sizeLine; decide, fun t5 h5 => ?_⟩
    have q5 := same_new (o := .tup [V.str "first", .int 0, .int 0]) h5
    have s5 := s4.trans q5
    have S5 := (S4.same q5).app (s := St.bin "first" 0 0) upd_same
    generalize upd H4 t5 _ = H5 at s5 q5 S5 ⊢
    refine ⟨by show 5 ≤ sizeLine; decide, fun l1 hl1 => ?_⟩
    have q6 := same_new (o := .lst [V.ref t1, .ref t2, .ref t3, .ref t4, .ref t5]) hl1
    have s6 := s5.trans q6
    have S6 := S5.same q6
    have L1 := upd_same (H := H5) (a := l1) (o := .lst [V.ref t1, .ref t2, .ref t3, .ref t4, .ref t5])
    generalize upd H5 l1 _ = H6 at s6 q6 S6 L1 ⊢
    refine ⟨_, rfl, _, rfl, by show 2 ≤ sizeLine; decide, fun t6 h6 => ?_⟩
    have q7 := same_new (o := .tup [V.str "row", .int (-1)]) h6
    have s7 := s6.trans q7
    have S7 := (S6.same q7).app (s := St.row (-1)) upd_same
    have L1 := q7 _ _ L1
    generalize upd H6 t6 _ = H7 at s7 q7 S7 L1 ⊢
    refine ⟨_, rfl, by show 3 ≤ sizeLine; decide, fun t7 h7 => ?_⟩
    have q8 := same_new (o := .tup [V.str "either", .int (-1), .int 0]) h7
    have s8 := s7.trans q8
    have S8 := (S7.same q8).app (s := St.bin "either" (-1) 0) upd_same
    have L1 := q8 _ _ L1
    generalize upd H7 t7 _ = H8 at s8 q8 S8 L1 ⊢
    refine ⟨by show 1 ≤ sizeLine; decide, fun t8 h8 => ?_⟩
    have q9 := same_new (o := .tup [V.str "first"]) h8
    have s9 := s8.trans q9
    have S9 := S8.same q9
    have L1 := q9 _ _ L1
    have T8 := upd_same (H := H8) (a := t8) (o := .tup [V.str "first"])
    generalize upd H8 t8 _ = H9 at s9 q9 S9 L1 T8 ⊢
    refine ⟨_, rfl, se, true, sets, us, rfl, s9.seq hse, hS.same s9, sl, hS12, fun a i j' H10 q10 ha hp1 => ?_⟩
    have s10 := s9.trans q10
    have S10 := S9.same q10
    have L1 := q10 _ _ L1
    refine ⟨t8, a, _, _, rfl, rfl, SqT.of (q10 _ _ T8), SqT.of ha, List.cons_ne_nil _ _, by show 3 ≤ sizeLine; decide, (fun z => nomatch z), fun _ t9 h9 => ?_⟩
    have q11 := same_new (o := .tup ([V.str "first"] ++ [V.int (i : Nat), .int (j' : Nat)])) h9
    have s11 := s10.trans q11
    have S11 := (S10.same q11).app (s := St.bin "first" (i : Nat) (j' : Nat)) upd_same
    have L1 := q11 _ _ L1
    generalize upd H10 t9 _ = H11 at s11 q11 S11 L1 ⊢
    refine ⟨by show 3 ≤ sizeLine; decide, fun l2 hl2 => ?_⟩
    have q12 := same_new (o := .lst [V.ref t6, .ref t7, .ref t9]) hl2
    have s12 := s11.trans q12
    have S12 := S11.same q12
    have L1 := q12 _ _ L1
    have L2 := upd_same (H := H11) (a := l2) (o := .lst [V.ref t6, .ref t7, .ref t9])
    generalize upd H11 l2 _ = H12 at s12 q12 S12 L1 L2 ⊢
    refine ⟨l1, l2, _, _, rfl, rfl, L1, L2, by show 8 ≤ sizeLine; decide, fun l3 hl3 => ?_⟩
    have q13 := same_new (o := .lst ([V.ref t1, .ref t2, .ref t3, .ref t4, .ref t5] ++ [V.ref t6, .ref t7, .ref t9])) hl3
    have s13 := s12.trans q13
    have S13 := S12.same q13
    have L3 := upd_same (H := H12) (a := l3) (o := .lst ([V.ref t1, .ref t2, .ref t3, .ref t4, .ref t5] ++ [V.ref t6, .ref t7, .ref t9]))
    generalize upd H12 l3 _ = H13 at s13 q13 S13 L3 ⊢
    refine ⟨_, rfl, by show 1 ≤ sizeLine; decide, fun t10 h10 => ?_⟩
    have q14 := same_new (o := .tup [V.str "either"]) h10
    have s14 := s13.trans q14
    have S14 := S13.same q14
    have L3 := q14 _ _ L3
    have T10 := upd_same (H := H13) (a := t10) (o := .tup [V.str "either"])
    generalize upd H13 t10 _ = H14 at s14 q14 S14 L3 T10 ⊢
    refine ⟨_, rfl, se, false, sets, us, rfl, s14.seq hse, hS.same s14, sl, hS12, fun a2 i2 j2 H15 q15 ha2 hp2 => ?_⟩
    have s15 := s14.trans q15
    have S15 := S14.same q15
    have L3 := q15 _ _ L3
    refine ⟨t10, a2, _, _, rfl, rfl, SqT.of (q15 _ _ T10), SqT.of ha2, List.cons_ne_nil _ _, by show 3 ≤ sizeLine; decide, (fun z => nomatch z), fun _ t11 h11 => ?_⟩
    have q16 := same_new (o := .tup ([V.str "either"] ++ [V.int (i2 : Nat), .int (j2 : Nat)])) h11
    have s16 := s15.trans q16
    have S16 := (S15.same q16).app (s := St.bin "either" (i2 : Nat) (j2 : Nat)) upd_same
    have L3 := q16 _ _ L3
    generalize upd H15 t11 _ = H16 at s16 q16 S16 L3 ⊢
    refine ⟨by show 1 ≤ sizeLine; decide, fun t12 h12 => ?_⟩
    have q17 := same_new (o := .tup [V.str "both"]) h12
    have s17 := s16.trans q17
    have S17 := S16.same q17
    have L3 := q17 _ _ L3
    have T12 := upd_same (H := H16) (a := t12) (o := .tup [V.str "both"])
    generalize upd H16 t12 _ = H17 at s17 q17 S17 L3 T12 ⊢
    refine ⟨_, rfl, se, false, sets, us, rfl, s17.seq hse, hS.same s17, sl, hS12, fun a3 i3 j3 H18 q18 ha3 hp3 => ?_⟩
    have s18 := s17.trans q18
    have S18 := S17.same q18
    have L3 := q18 _ _ L3
    refine ⟨t12, a3, _, _, rfl, rfl, SqT.of (q18 _ _ T12), SqT.of ha3, List.cons_ne_nil _ _, by show 3 ≤ sizeLine; decide, (fun z => nomatch z), fun _ t13 h13 => ?_⟩
    have q19 := same_new (o := .tup ([V.str "both"] ++ [V.int (i3 : Nat), .int (j3 : Nat)])) h13
    have s19 := s18.trans q19
    have S19 := (S18.same q19).app (s := St.bin "both" (i3 : Nat) (j3 : Nat)) upd_same
    have L3 := q19 _ _ L3
    generalize upd H18 t13 _ = H19 at s19 q19 S19 L3 ⊢
    refine ⟨by show 2 ≤ sizeLine; decide, fun l4 hl4 => ?_⟩
    have q20 := same_new (o := .lst [V.ref t11, .ref t13]) hl4
    have s20 := s19.trans q20
    have S20 := S19.same q20
    have L3 := q20 _ _ L3
    have L4 := upd_same (H := H19) (a := l4) (o := .lst [V.ref t11, .ref t13])
    generalize upd H19 l4 _ = H20 at s20 q20 S20 L3 L4 ⊢
    refine ⟨l3, l4, _, _, rfl, rfl, L3, L4, by show 10 ≤ sizeLine; decide, fun l5 hl5 => ?_⟩
    have q21 := same_new (o := .lst (([V.ref t1, .ref t2, .ref t3, .ref t4, .ref t5] ++ [V.ref t6, .ref t7, .ref t9]) ++ [V.ref t11, .ref t13])) hl5
    have s21 := s20.trans q21
    have S21 := S20.same q21
    obtain ⟨j, hj⟩ := Int.eq_ofNat_of_zero_le (Int.emod_nonneg d (show (10 : Int) ≠ 0 by decide))
    have hj1 := Int.emod_lt_of_pos d (show (0 : Int) < 10 by decide)
    have hj2 : j < 10 := by omega
    have et : [t1, t2, t3, t4, t5, t6, t7, t9, t11, t13][j]? = some ([t1, t2, t3, t4, t5, t6, t7, t9, t11, t13][j]'hj2) := List.getElem?_eq_getElem hj2
    have ed : atI (([V.ref t1, .ref t2, .ref t3, .ref t4, .ref t5] ++ [V.ref t6, .ref t7, .ref t9]) ++ [V.ref t11, .ref t13]) (d % 10) = some (V.ref ([t1, t2, t3, t4, t5, t6, t7, t9, t11, t13][j]'hj2)) := by
      rw [hj]; exact atR_of et
    refine ⟨_, rfl, _, rfl, .inl ⟨_, rfl, _, _, rfl, rfl, by show (0 : Int) < 10; decide, l5, _, _, _, rfl, rfl, SqL.of upd_same, ed, ?_⟩⟩
    have pb : ∀ {b : Bool} {i j : Nat}, (PairOk sets b i j ∨ (i = 0 ∧ j = sets.length)) → i ≤ 100 ∧ j ≤ 100 := fun h => by
      rcases h with ⟨a, b, _⟩ | ⟨a, b⟩ <;> omega
    obtain ⟨pi1, pj1⟩ := pb hp1
    obtain ⟨pi2, pj2⟩ := pb hp2
    obtain ⟨pi3, pj3⟩ := pb hp3
    have nbf : ("first" : Str) ≠ "both" ∧ ("first" : Str) ≠ "either" := by decide +kernel
    have hall : ∀ s ∈ [St.bin "both" (sets.length : Nat) 0, St.bin "either" 0 (sets.length : Nat), St.row (rs.length : Nat), St.one "stranger", St.bin "first" 0 0, St.row (-1), St.bin "either" (-1) 0, St.bin "first" (i : Nat) (j' : Nat), St.bin "either" (i2 : Nat) (j2 : Nat), St.bin "both" (i3 : Nat) (j3 : Nat)], s.ok ∧ stepM cs rs sets s = none := by
      intro s hs
      simp only [List.mem_cons, List.not_mem_nil, or_false] at hs
      rcases hs with rfl | rfl | rfl | rfl | rfl | rfl | rfl | rfl | rfl | rfl
      · exact ⟨⟨.inl rfl, ⟨by omega, by omega⟩, by omega, by omega⟩, none_far (by omega)⟩
      · exact ⟨⟨.inr (.inl rfl), ⟨by omega, by omega⟩, by omega, by omega⟩, none_far (by omega)⟩
      · refine ⟨⟨by omega, by omega⟩, ?_⟩
        exact none_row (by omega)
      · refine ⟨good_stranger, ?_⟩
        show (if ("stranger" : Str) ∈ cs then some [("stranger" : Str)] else none) = _
        rw [if_neg hst]
      · exact ⟨⟨.inr (.inr rfl), ⟨by omega, by omega⟩, by omega, by omega⟩, none_same nbf⟩
      · refine ⟨⟨by omega, by omega⟩, ?_⟩
        exact none_row (by omega)
      · exact ⟨⟨.inr (.inl rfl), ⟨by omega, by omega⟩, by omega, by omega⟩, none_far (by omega)⟩
      · exact ⟨⟨.inr (.inr rfl), ⟨by omega, by omega⟩, by omega, by omega⟩, none_pair hp1 fun _ => nbf⟩
      · exact ⟨⟨.inr (.inl rfl), ⟨by omega, by omega⟩, by omega, by omega⟩, none_pair hp2 fun h => nomatch h⟩
      · exact ⟨⟨.inl rfl, ⟨by omega, by omega⟩, by omega, by omega⟩, none_pair hp3 fun h => nomatch h⟩
    have es := List.getElem?_eq_getElem (l := [St.bin "both" (sets.length : Nat) 0, St.bin "either" 0 (sets.length : Nat), St.row (rs.length : Nat), St.one "stranger", St.bin "first" 0 0, St.row (-1), St.bin "either" (-1) 0, St.bin "first" (i : Nat) (j' : Nat), St.bin "either" (i2 : Nat) (j2 : Nat), St.bin "both" (i3 : Nat) (j3 : Nat)]) (i := j) hj2
    have hs := hall _ (List.mem_of_getElem? es)
    exact kk _ _ _ s21 (S21.2 j _ _ et es) hs.1 hs.2
end
end My
set_option maxRecDepth 100000
set_option maxHeartbeats 4000000
namespace My
open PySem L2
/-! ### == of lists of names -/
theorem ok_good {z : Str} (h : Good z) : PyData.canLay0 (.str z) = true := by
  unfold PyData.canLay0 PyData.strOk
  rw [Array.all_eq_true]
  intro i hi
  have := h.let_ z.cps[i] (by rw [Array.mem_toList_iff]; exact Array.getElem_mem hi)
  exact decide_eq_true (by omega)
abbrev pd (ss : List Str) : List PyData := ss.map PyData.str
theorem lay_all {ss : List Str} (h : ∀ z ∈ ss, Good z) : PyData.canLayAll0 (pd ss) = true := by
  induction ss with
  | nil => rfl
  | cons a t ih =>
    show (PyData.canLay0 (.str a) && PyData.canLayAll0 (pd t)) = true
    rw [ok_good (h a List.mem_cons_self), ih fun z hz => h z (List.mem_cons_of_mem _ hz)]; rfl
theorem depth_pd : ∀ ss : List Str, PyData.depthAll (pd ss) ≤ 1
  | [] => by simp [PyData.depthAll]
  | n :: r => by
    have e : PyData.depthAll (r.map PyData.str) ≤ 1 := depth_pd r
    simp only [List.map_cons, PyData.depthAll, PyData.depth]
    omega
theorem shaped_pd {ss : List Str} (h : ∀ z ∈ ss, Good z) : SeqAt.shaped (.list (pd ss)) = true := by
  have h1 := depth_pd ss
  show (PyData.canLay0 (.list (pd ss)) && decide (PyData.depth (.list (pd ss)) ≤ 64)) = true
  rw [Bool.and_eq_true]
  exact ⟨by simp only [PyData.canLay0]; exact lay_all h, decide_eq_true (by simp only [PyData.depth]; omega)⟩
theorem dp_pd {K : PySem.W.Frag} {H : Hp} : ∀ ss : List Str, DpAll K H (sv ss) (pd ss)
  | [] => .nil
  | s :: r => .cons (.str s) (dp_pd r)
theorem eqv_pd {ss : List Str} (h : ∀ z ∈ ss, Good z) : PyData.eqv (.list (pd ss)) (.list (pd ss)) = true := SeqAt.eqv_refl _ (by simp only [PyData.canLay0]; exact lay_all h)
theorem exm_self {K : PySem.W.Frag} {C : Addr} (hb : PySem.W.subIn K (.ref C) (.type "BaseException") = some true) (hi : PySem.W.isClsIn K C = true) (ht : PySem.W.typeIn K (.ref C) = some (.type "type")) (hs : PySem.W.subIn K (.ref C) (.ref C) = some true) :
    PySem.W.exmOne K (.ref C) (.ref C) = some true := by
  unfold PySem.W.exmOne
  rw [hb, if_pos (by rfl)]
  show (if ((PySem.W.clsIn K C).isSome && PySem.W.typeIn K (.ref C) == some (.type "type")) = true then _ else _) = _
  rw [if_pos (by
    rw [ht]
    have : (PySem.W.clsIn K C).isSome = true := hi
    rw [this]; simp)]
  exact hs
section
variable {P : Program} {w : World} {K : PySem.W.Frag} {mg : Str → Option Value} {base : Heap} {A : Ad}
def spSame (K : PySem.W.Frag) : Sp := fun vs H Q _ => ∃ (D se : Addr) (sets : List (List Str)) (ts us : List Addr), vs = [.ref D, .ref se] ∧ H D = some (.lst (ts.map V.ref)) ∧ Lss .tup H ts sets ∧ SqL K H se (us.map V.ref) ∧ Lss .lst H us sets ∧ sets.length ≤ 100 ∧ (∀ S ∈ sets, ∀ z ∈ S, Good z) ∧ ∀ H', Same H H' → Q (.bl true) H'
theorem ok_same (T : Txt P K mg A) : FnOk P w K mg base CX0 1 A.a_law_same A.d_law_same ["found", "sets"] (spSame K) := by
  refine T.F_law_same.ok sc_law_same (fun vs H Q E h => ?_) (fun cdv A' outer s H vs Q E hr h => ?_)
  · obtain ⟨D, se, sets, ts, us, rfl, _⟩ := h
    rfl
  · obtain ⟨D, se, sets, ts, us, rfl, hD, hT, hse, hS, sl, hG, kk⟩ := h
    refine ⟨_, (pss_cons (ps_if (PW.pt (pw_or (pt_not (pt_val (pe_callB call_isi (by rfl) T.n_isinstance (by decide +kernel) (pa_cons (pv 0) (pa_cons (pe_bltn (v := .ty "list") (by rfl) T.n_list (by decide +kernel) rfl) pa_nil))))) (pw_or1 (pt_cmpR op_ne (pe_callB call_len_seq (by rfl) T.n_len (by decide +kernel) (pa_cons (pv 0) pa_nil)) (pe_callB call_len_seq (by rfl) T.n_len (by decide +kernel) (pa_cons (pv 1) pa_nil)) (nomark _))))) (pss_one (ps_ret pe_bl)) pss_nil)
      (pss_cons (ps_for PassesOwn.never rfl (pi_range1 (by rfl) T.n_range (pa_cons (pe_callB call_len_seq (by rfl) T.n_len (by decide +kernel) (pa_cons (pv 1) pa_nil)) pa_nil)) (pg_name (i := 2) sc_law_same.nd rfl (Or.inl rfl))
        (pss_one (ps_if (PW.pt (pw_or (pt_not (pt_val (pe_callB call_isi (by rfl) T.n_isinstance (by decide +kernel) (pa_cons (pe_ix ix_list (pv 0) (pv 2) (fun _ _ => rfl)) (pa_cons (pe_bltn (v := .ty "tuple") (by rfl) T.n_tuple (by decide +kernel) rfl) pa_nil))))) (pw_or1 (pt_cmpR (op_neD hr.units) (pe_callTy call_list_of (by rfl) T.n_list (by decide +kernel) (pa_cons (pe_ix ix_list (pv 0) (pv 2) (fun _ _ => rfl)) pa_nil)) (pe_ix ix_list (pv 1) (pv 2) (fun _ _ => rfl)) (nomark _))))) (pss_one (ps_ret pe_bl)) pss_nil)))
      (pss_one (ps_ret pe_bl)))), ?_⟩
    have lt : (ts.map V.ref).length = sets.length := by rw [List.length_map, hT.len]
    have lu : (us.map V.ref).length = sets.length := by rw [List.length_map, hS.len]
    refine ⟨_, rfl, _, _, _, _, true, rfl, .ty _, .base (.lst hD), kit_ty (by decide +kernel), true, rfl, ifF rfl ?_⟩
    refine ⟨_, rfl, D, _, rfl, .inl (SqL.of hD), _, rfl, se, _, rfl, .inl hse, rfl, _, rfl, itNe (by rw [lt, lu]) ?_⟩
    refine ⟨_, rfl, se, _, rfl, .inl hse, _, rfl, by rw [lu]; omega, by rw [lu]; omega, ?_⟩
    have e1 : (((us.map V.ref).length : Nat) : Int).toNat = sets.length := by rw [lu, Int.toNat_natCast]
    refine for_range (n := (((us.map V.ref).length : Nat) : Int).toNat) (fun i σ H2 => Same H H2 ∧ ∃ u1 : Option V, σ = [some (.ref D), some (.ref se), u1]) ⟨Same.refl _, none, rfl⟩ ?_ ?_
    · rintro i σ H2 hi ⟨sm, u1, rfl⟩
      rw [e1] at hi
      have hi0 : (0 : Int) + (i : Int) = (i : Int) := by omega
      obtain ⟨t, S, et, eS, hT1⟩ := hT.ex hi
      obtain ⟨u, U, eu, eU, hU1⟩ := hS.ex hi
      rw [eS] at eU; cases eU
      have gS := hG S (List.mem_of_getElem? eS)
      have atT : atI (ts.map V.ref) (0 + (i : Int)) = some (V.ref t) := by rw [hi0]; exact atR_of et
      have atU : atI (us.map V.ref) (0 + (i : Int)) = some (V.ref u) := by rw [hi0]; exact atR_of eu
      refine ⟨_, rfl, _, rfl, D, _, _, _, rfl, rfl, SqL.of (sm _ _ hD), atT, _, _, _, _, true, rfl, .ty _, .base (.tup (sm _ _ hT1)), kit_ty (by decide +kernel), true, rfl, ifF rfl ?_⟩
      refine ⟨_, rfl, _, rfl, D, _, _, _, rfl, rfl, SqL.of (sm _ _ hD), atT, t, _, rfl, .inr (SqT.of (sm _ _ hT1)), fun l hl => ?_⟩
      have s2 := sm.trans (same_new (o := .lst (sv S)) hl)
      refine ⟨_, rfl, _, rfl, se, _, _, _, rfl, rfl, s2.seq hse, atU, .list (pd S), .list (pd S), .lst (xs := sv S) (SqL.of upd_same) (dp_pd S), .lst (xs := sv S) (SqL.of (s2 _ _ hU1)) (dp_pd S), shaped_pd gS, shaped_pd gS, _, rfl, ifF (by rw [eqv_pd gS]; rfl) ?_⟩
      exact ⟨s2, _, rfl⟩
    · rintro σ H2 ⟨sm, u1, rfl⟩
      exact kk H2 sm
def spRefusal (C : Addr) (K : PySem.W.Frag) : Sp := fun vs H Q _ => ∃ (p l : Addr) (cs : List Str) (rs sets : List (List Str)) (ts : List Addr) (ss rest : List St) (b : St), vs = [.ref p, .ref l] ∧ Tb C H p cs rs ∧ SqL K H l (ts.map V.ref) ∧ Sts H ts (ss ++ b :: rest) ∧ (∀ s ∈ ss, s.ok) ∧ b.ok ∧ Runs cs rs ss sets ∧ stepM cs rs sets b = none ∧
  cs.Nodup ∧ cs.length ≤ 12 ∧ rs.length ≤ 48 ∧ ss.length ≤ 100 ∧ ∀ (t : Addr) H', Same H H' → H' t = some (.tup [.int (ss.length : Nat), .bl true, .bl false]) → Q (.ref t) H'
theorem ok_refusal (T : Txt P K mg A) : FnOk P w K mg base CX0 5 A.a_law_refusal A.d_law_refusal ["table", "steps"] (spRefusal A.C_Table K) := by
  have GX_follow := ok_followX (P := P) (w := w) (base := base) T
  refine T.F_law_refusal.ok sc_law_refusal (fun vs H Q E h => ?_) (fun cdv A' outer s H vs Q E hr h => ?_)
  · obtain ⟨p, l, cs, rs, sets, ts, ss, rest, b, rfl, _⟩ := h
    rfl
  · obtain ⟨p, l, cs, rs, sets, ts, ss, rest, b, rfl, hT, hL, hS, ok, okb, hR, hno, nd, hc, hrs, hsl, kk⟩ := h
    refine ⟨_, (pss_cons (ps_set (i := 2) sc_law_refusal.nd rfl (Or.inl rfl) pe_non)
      (pss_cons (ps_try_as (i := 3) (Wout := fun _ _ _ _ => False) rfl rfl sc_law_refusal.nd rfl rfl ⟨rfl, by decide, .inl T.mg_BadStep⟩ takes0 (fun W pn xe tk _ => (pss_one (ps_expr (pe_callS GX_follow (hr.mono (by decide)) rfl T.mg_follow T.F_follow.kp T.b_follow (fun σ => passAt tk σ) (pa_cons (pv 0) (pa_cons (pv 1) pa_nil)))))) (fun a oe cls d pn hz hf => (pss_one (ps_set (i := 2) sc_law_refusal.nd rfl (Or.inl rfl) (pe_tup (pa_cons (pe_xf T.xf_BadStep T.xn_BadStep_index hz hf (pv 3)) (pa_cons (pe_and (pe_callB (call_isExD hz hf) (by rfl) T.n_isinstance (by decide +kernel) (pa_cons (pv 3) (pa_cons (pe_glob (v := .ref A.C_RowsError) rfl T.mg_RowsError rfl) pa_nil))) (pe_one (pe_callB (call_isExD hz hf) (by rfl) T.n_isinstance (by decide +kernel) (pa_cons (pv 3) (pa_cons (pe_bltn (v := .ty "ValueError") (by rfl) T.n_ValueError (by decide +kernel) rfl) pa_nil))))) (pa_cons (pe_callB (call_isExT hz hf) (by rfl) T.n_isinstance (by decide +kernel) (pa_cons (pv 3) (pa_cons (pe_tup (pa_cons (pe_glob (v := .ref A.C_Unknown) rfl T.mg_Unknown rfl) (pa_cons (pe_glob (v := .ref A.C_Impossible) rfl T.mg_Impossible rfl) pa_nil))) pa_nil))) pa_nil))))))))
      (pss_one (ps_ret (pv 2))))), ?_⟩
    refine ⟨_, rfl, _, rfl, p, l, cs, rs, sets, ts, ss, rest, b, rfl, hT, hL, hS, ok, okb, hR, hno, nd, hc, hrs, hsl, fun d H6 s6 hd => ?_⟩
    refine ⟨true, exm_self T.bp_BadStep T.ic_BadStep T.tp_BadStep T.ss_BadStep, fun _ e he => ?_, fun q => nomatch q⟩
    have hne : A.C_BadStep ≠ A.C_Unknown ∧ A.C_BadStep ≠ A.C_Impossible := by
      refine ⟨fun e => ?_, fun e => ?_⟩
      · have z := T.su_BadStep_Unknown
        rw [← e, T.ss_BadStep] at z; cases z
      · have z := T.su_BadStep_Impossible
        rw [← e, T.ss_BadStep] at z; cases z
    have k1 : PySem.W.kitOne K (.ref A.C_BadStep) (.ref A.C_RowsError) = some true := kit_own T.ic_RowsError T.tp_RowsError T.su_BadStep_RowsError (.inr rfl)
    have k2 : PySem.W.kitOne K (.ref A.C_BadStep) (.type "ValueError") = some true := kit_ownT (by decide +kernel) T.sv_BadStep
    have k3 : PySem.W.kitOne K (.ref A.C_BadStep) (.ref A.C_Unknown) = some false := kit_own T.ic_Unknown T.tp_Unknown T.su_BadStep_Unknown (.inl hne.1)
    have k4 : PySem.W.kitOne K (.ref A.C_BadStep) (.ref A.C_Impossible) = some false := kit_own T.ic_Impossible T.tp_Impossible T.su_BadStep_Impossible (.inl hne.2)
    refine ⟨_, rfl, rfl, rfl, d, _, _, rfl, hd, rfl, ?_⟩
    refine ⟨_, rfl, _, _, _, rfl, rfl, hd, T.ec_BadStep, _, _, true, rfl, fun _ h => h, k1, true, rfl, iteT ?_⟩
    refine ⟨_, rfl, _, _, _, rfl, rfl, hd, T.ec_BadStep, _, _, true, rfl, fun _ h => h, k2, ?_⟩
    refine ⟨_, rfl, by show 2 ≤ sizeLine; decide, fun tp htp => ?_⟩
    have q1 := same_new (o := .tup [V.ref A.C_Unknown, .ref A.C_Impossible]) htp
    have s7 := s6.trans q1
    refine ⟨_, _, _, rfl, rfl, q1 _ _ hd, T.ec_BadStep, tp, _, _, false, rfl, upd_same, .cons (.own _) (.cons (.own _) .nil), kitAny_cons k3 (fun _ => kitAny_cons k4 (fun _ => kitAny_nil) fun h => nomatch h) (fun h => nomatch h), ?_⟩
    refine ⟨by show 3 ≤ sizeLine; decide, fun t ht => ?_⟩
    have s8 := s7.trans (same_new (o := .tup [V.int (ss.length : Nat), .bl true, .bl false]) ht)
    exact ⟨_, rfl, kk t _ s8 upd_same⟩
end
end My
set_option maxRecDepth 100000
set_option maxHeartbeats 4000000
namespace My
open PySem L2
def St.dat : St → List PyData
  | .row z => [.str "row", .int z]
  | .all => [.str "all"]
  | .one z => [.str "one", .str z]
  | .bin w i j => [.str w, .int i, .int j]
theorem dp_enc {K : PySem.W.Frag} {H : Hp} (s : St) : DpAll K H s.enc s.dat := by
  cases s with
  | row z => exact .cons (.str _) (.cons (.int _) .nil)
  | all => exact .cons (.str _) .nil
  | one z => exact .cons (.str _) (.cons (.str _) .nil)
  | bin w i j => exact .cons (.str _) (.cons (.int _) (.cons (.int _) .nil))
theorem good_w : Good ("row" : Str) ∧ Good ("all" : Str) ∧ Good ("one" : Str) ∧ Good ("both" : Str) ∧ Good ("either" : Str) ∧ Good ("first" : Str) := ⟨okName_iff.mp (by decide +kernel), okName_iff.mp (by decide +kernel), okName_iff.mp (by decide +kernel), okName_iff.mp (by decide +kernel), okName_iff.mp (by decide +kernel), okName_iff.mp (by decide +kernel)⟩
theorem layc {a : PyData} {r : List PyData} (h : PyData.canLay0 a = true) (k : PyData.canLayAll0 r = true) : PyData.canLayAll0 (a :: r) = true := by
  show (PyData.canLay0 a && PyData.canLayAll0 r) = true
  rw [h, k]; rfl
theorem lay_int (i : Int) : PyData.canLay0 (.int i) = true := by simp [PyData.canLay0]
theorem W3.good {w : Str} (h : W3 w) : Good w := by
  obtain ⟨_, _, _, a, b, c⟩ := good_w
  rcases h with rfl | rfl | rfl <;> assumption
theorem lay_dat {s : St} (ok : s.ok) : PyData.canLayAll0 s.dat = true := by
  obtain ⟨g1, g2, g3, _⟩ := good_w
  cases s with
  | row z => exact layc (ok_good g1) (layc (lay_int _) rfl)
  | all => exact layc (ok_good g2) rfl
  | one z => exact layc (ok_good g3) (layc (ok_good ok) rfl)
  | bin w i j => exact layc (ok_good ok.1.good) (layc (lay_int _) (layc (lay_int _) rfl))
theorem depth_dat (s : St) : PyData.depthAll s.dat ≤ 1 := by
  cases s <;> simp [PyData.depthAll, PyData.depth, St.dat]
theorem shapedL {xs : List PyData} (h1 : PyData.canLayAll0 xs = true) (h2 : PyData.depthAll xs ≤ 20) : SeqAt.shaped (.list xs) = true := by
  show (PyData.canLay0 (.list xs) && decide (PyData.depth (.list xs) ≤ 64)) = true
  rw [Bool.and_eq_true]
  exact ⟨by simp only [PyData.canLay0]; exact h1, decide_eq_true (by simp only [PyData.depth]; omega)⟩
theorem shapedT {xs : List PyData} (h1 : PyData.canLayAll0 xs = true) (h2 : PyData.depthAll xs ≤ 20) : SeqAt.shaped (.tuple xs) = true := by
  show (PyData.canLay0 (.tuple xs) && decide (PyData.depth (.tuple xs) ≤ 64)) = true
  rw [Bool.and_eq_true]
  exact ⟨by simp only [PyData.canLay0]; exact h1, decide_eq_true (by simp only [PyData.depth]; omega)⟩
theorem eqvL {xs : List PyData} (h1 : PyData.canLayAll0 xs = true) : PyData.eqv (.list xs) (.list xs) = true := SeqAt.eqv_refl _ (by simp only [PyData.canLay0]; exact h1)
theorem eqvT {xs : List PyData} (h1 : PyData.canLayAll0 xs = true) : PyData.eqv (.tuple xs) (.tuple xs) = true := SeqAt.eqv_refl _ (by simp only [PyData.canLay0]; exact h1)
theorem layL {xs : List PyData} (h1 : PyData.canLayAll0 xs = true) : PyData.canLay0 (.list xs) = true := by simp only [PyData.canLay0]; exact h1
theorem layT {xs : List PyData} (h1 : PyData.canLayAll0 xs = true) : PyData.canLay0 (.tuple xs) = true := by simp only [PyData.canLay0]; exact h1
/-- steps as data -/
abbrev pds (ss : List St) : List PyData := ss.map fun s => PyData.tuple s.dat
theorem lay_pds {ss : List St} (h : ∀ s ∈ ss, s.ok) : PyData.canLayAll0 (pds ss) = true := by
  induction ss with
  | nil => rfl
  | cons a t ih => exact layc (layT (lay_dat (h a List.mem_cons_self))) (ih fun s hs => h s (List.mem_cons_of_mem _ hs))
theorem depth_pds : ∀ ss : List St, PyData.depthAll (pds ss) ≤ 3
  | [] => by simp [PyData.depthAll]
  | s :: t => by
    have h1 : PyData.depthAll (t.map fun s => PyData.tuple s.dat) ≤ 3 := depth_pds t
    have h2 := depth_dat s
    simp only [List.map_cons, PyData.depthAll, PyData.depth]
    omega
theorem dp_pds {K : PySem.W.Frag} {H : Hp} : ∀ {ts : List Addr} {ss : List St}, Sts H ts ss → DpAll K H (ts.map V.ref) (pds ss)
  | [], [], _ => .nil
  | [], _ :: _, h => nomatch h.1
  | _ :: _, [], h => nomatch h.1
  | t :: ts, s :: ss, h => .cons (.tup (xs := s.enc) (SqT.of (h.2 0 t s rfl rfl)) (dp_enc s)) (dp_pds ⟨Nat.succ.inj h.1, fun i u x a b => h.2 (i + 1) u x a b⟩)
/-- rows as data -/
abbrev pdr (rs : List (List Str)) : List PyData := rs.map fun r => PyData.list (pd r)
theorem lay_pdr {rs : List (List Str)} (h : ∀ r ∈ rs, ∀ z ∈ r, Good z) : PyData.canLayAll0 (pdr rs) = true := by
  induction rs with
  | nil => rfl
  | cons a t ih => exact layc (layL (lay_all (h a List.mem_cons_self))) (ih fun s hs => h s (List.mem_cons_of_mem _ hs))
theorem depth_pdr : ∀ rs : List (List Str), PyData.depthAll (pdr rs) ≤ 3
  | [] => by simp [PyData.depthAll]
  | r :: t => by
    have h1 : PyData.depthAll (t.map fun r => PyData.list (pd r)) ≤ 3 := depth_pdr t
    have h2 := depth_pd r
    simp only [List.map_cons, PyData.depthAll, PyData.depth]
    omega
theorem dp_pdr {K : PySem.W.Frag} {H : Hp} : ∀ {ts : List Addr} {rs : List (List Str)}, Lss .lst H ts rs → DpAll K H (ts.map V.ref) (pdr rs)
  | [], [], _ => .nil
  | [], _ :: _, h => nomatch h.len
  | _ :: _, [], h => nomatch h.len
  | t :: ts, r :: rs, h => .cons (.lst (xs := sv r) (SqL.of (h.at_ 0 t r rfl rfl)) (dp_pd r)) (dp_pdr ⟨Nat.succ.inj h.len, fun i u x a b => h.at_ (i + 1) u x a b⟩)
/-- what is handed in -/
abbrev hdd (cs : List Str) (rs : List (List Str)) (ss sb : List St) : List PyData := [.list (pd cs), .list (pdr rs), .list (pds ss), .list (pds sb)]
theorem lay_hdd {cs : List Str} {rs : List (List Str)} {ss sb : List St} (h1 : ∀ z ∈ cs, Good z) (h2 : ∀ r ∈ rs, ∀ z ∈ r, Good z) (h3 : ∀ s ∈ ss, s.ok) (h4 : ∀ s ∈ sb, s.ok) : PyData.canLayAll0 (hdd cs rs ss sb) = true :=
  layc (layL (lay_all h1)) (layc (layL (lay_pdr h2)) (layc (layL (lay_pds h3)) (layc (layL (lay_pds h4)) rfl)))
theorem depth_hdd {cs : List Str} {rs : List (List Str)} {ss sb : List St} : PyData.depthAll (hdd cs rs ss sb) ≤ 20 := by
  have a := depth_pd cs
  have b := depth_pdr rs
  have c := depth_pds ss
  have d := depth_pds sb
  simp only [PyData.depthAll, PyData.depth]
  omega
theorem RowOk.good {cs x : List Str} (h : RowOk cs x) (g : ∀ z ∈ cs, Good z) : ∀ z ∈ x, Good z := fun z hz => g z (h.2 z hz)
theorem Lss.apps {f : List V → HO} {H : Hp} {t1 t2 : List Addr} {r1 r2 : List (List Str)} (h : Lss f H t1 r1) (k : Lss f H t2 r2) : Lss f H (t1 ++ t2) (r1 ++ r2) := by
  refine ⟨by rw [List.length_append, List.length_append, h.len, k.len], fun i u y a b => ?_⟩
  by_cases c : i < t1.length
  · rw [List.getElem?_append_left c] at a
    rw [List.getElem?_append_left (by rw [← h.len]; exact c)] at b
    exact h.at_ i u y a b
  · rw [List.getElem?_append_right (by omega)] at a
    rw [List.getElem?_append_right (by rw [← h.len]; omega), ← h.len] at b
    exact k.at_ _ u y a b
theorem Sts.apps {H : Hp} {t1 t2 : List Addr} {s1 s2 : List St} (h : Sts H t1 s1) (k : Sts H t2 s2) : Sts H (t1 ++ t2) (s1 ++ s2) := by
  refine ⟨by rw [List.length_append, List.length_append, h.1, k.1], fun i u y a b => ?_⟩
  by_cases c : i < t1.length
  · rw [List.getElem?_append_left c] at a
    rw [List.getElem?_append_left (by rw [← h.1]; exact c)] at b
    exact h.2 i u y a b
  · rw [List.getElem?_append_right (by omega)] at a
    rw [List.getElem?_append_right (by rw [← h.1]; omega), ← h.1] at b
    exact k.2 _ u y a b
theorem one_ok {s : St} (h : s.ok) {ss : List St} (k : ∀ s ∈ ss, s.ok) : ∀ x ∈ ss ++ [s], x.ok := fun x hx => (List.mem_append.mp hx).elim (k x) fun hx => by rw [List.mem_singleton.mp hx]; exact h
end My
set_option maxRecDepth 100000
set_option maxHeartbeats 8000000
namespace My
open PySem L2
open C8 (pss_cut)
theorem Lss.updNe {f : List V → HO} {H : Hp} {ts : List Addr} {rs : List (List Str)} {l : Addr} {o : HO} (h : Lss f H ts rs) (hne : ∀ (i : Nat) (t : Addr), ts[i]? = some t → t ≠ l) : Lss f (upd H l o) ts rs :=
  ⟨h.len, fun i t x a b => by rw [upd_ne (hne i t a)]; exact h.at_ i t x a b⟩
theorem ne_app {ts : List Addr} {a l : Addr} (h : ∀ (i : Nat) (t : Addr), ts[i]? = some t → t ≠ l) (ha : a ≠ l) : ∀ (i : Nat) (t : Addr), (ts ++ [a])[i]? = some t → t ≠ l := fun i t e => by
  rcases List.mem_append.mp (List.mem_of_getElem? e) with hm | hm
  · obtain ⟨j, hj, rfl⟩ := List.getElem_of_mem hm
    exact h j _ (List.getElem?_eq_getElem hj)
  · rw [List.mem_singleton.mp hm]; exact ha
theorem noT {r : Addr} : ∀ (i : Nat) (t : Addr), ([] : List Addr)[i]? = some t → t ≠ r := fun i t h => by simp at h
/-- a comprehension's list of new lists -/
def LcL (H1 : Hp) (D : Addr) (lls : List (List Str)) (H : Hp) : Prop := Same H1 H ∧ ∃ us : List Addr, H D = some (.lst (us.map V.ref)) ∧ Lss .lst H us lls ∧ ∀ (i : Nat) (t : Addr), us[i]? = some t → t ≠ D
theorem lcl0 {H1 : Hp} {D : Addr} (hD : H1 D = none) : LcL H1 D [] (upd H1 D (.lst [])) := ⟨same_new hD, [], upd_same, Lss.nil, noT⟩
theorem LcL.push {H1 H H' : Hp} {D a : Addr} {lls : List (List Str)} {y : List Str} (q : LcL H1 D lls H) (hD : H1 D = none) (s : Same H H') (ha : H' a = some (.lst (sv y))) (hne : a ≠ D) (hl : lls.length ≤ 1000001) :
    ∃ acc, H' D = some (.lst acc) ∧ acc.length < sizeLine ∧ LcL H1 D (lls ++ [y]) (upd H' D (.lst (acc ++ [.ref a]))) := by
  obtain ⟨sm, us, hd, hls, hn⟩ := q
  refine ⟨us.map V.ref, s _ _ hd, Nat.lt_of_le_of_lt (by rw [List.length_map, hls.len]; exact hl) (by decide), fun b o e => ?_, us ++ [a], ?_, ?_, ne_app hn hne⟩
  · rw [upd_ne (ne_of_none e hD)]; exact s _ _ (sm _ _ e)
  · rw [List.map_append]; exact upd_same
  · exact ((hls.same s).app ha).updNe (ne_app hn hne)
theorem LcL.new {H1 H : Hp} {D a : Addr} {lls : List (List Str)} {y : List Str} (q : LcL H1 D lls H) (hD : H1 D = none) (ha : H a = none) (hl : lls.length ≤ 1000001) :
    ∃ acc, (upd H a (.lst (sv y))) D = some (.lst acc) ∧ acc.length < sizeLine ∧ LcL H1 D (lls ++ [y]) (upd (upd H a (.lst (sv y))) D (.lst (acc ++ [.ref a]))) :=
  q.push hD (same_new ha) upd_same (by obtain ⟨_, us, hd, _⟩ := q; exact (ne_of_none hd ha).symm) hl

theorem cut_ints (ns : List Int) : ∃ ys : List Int, cutV (ns.map V.int) (some (3 : Int)) (some (9 : Int)) = ys.map V.int ∧ ys.length ≤ 6 := by
  unfold cutV
  rw [show (3 : Int) = ((3 : Nat) : Int) from rfl, show (9 : Int) = ((9 : Nat) : Int) from rfl, HT.sIx_nat, HT.sIx_nat, ← List.map_drop, ← List.map_take]
  refine ⟨_, rfl, ?_⟩
  rw [List.length_take]
  omega
theorem enc_word (s : St) : ∃ (z : Str) (r : List V), s.enc = .str z :: r := by
  cases s <;> exact ⟨_, _, rfl⟩
theorem not_in_cs {cs : List Str} (h : Nms cs) : ("stranger" : Str) ∉ cs := fun hm => by
  have := (h.2 _ hm).2
  have e : ("stranger" : Str).length = 8 := by decide
  omega
def spLaw (K : PySem.W.Frag) : Sp := fun vs H Q _ => ∃ (a : Addr) (ns : List Int), vs = [.ref a] ∧ SqL K H a (ns.map V.int) ∧ ns.length ≤ 63 ∧ ∀ H', Q (.bl true) H'
section
variable {P : Program} {w : World} {K : PySem.W.Frag} {mg : Str → Option Value} {base : Heap} {A : Ad}
theorem ok_law (T : Txt P K mg A) : FnOk P w K mg base CX0 15 A.a_law A.d_law ["script"] (spLaw K) := by
  have G_law_pool := ok_pool (P := P) (w := w) (base := base) T
  have G_law_size := ok_size (P := P) (w := w) (base := base) T
  have G_law_names := ok_names (P := P) (w := w) (base := base) T
  have G_law_order := ok_order (P := P) (w := w) (base := base) T
  have G_law_row := ok_row (P := P) (w := w) (base := base) T
  have G_law_rows := ok_rows (P := P) (w := w) (base := base) T
  have G_law_sorted := ok_sorted (P := P) (w := w) (base := base) T
  have G_law_is_number := ok_isNum (P := P) (w := w) (base := base) T
  have G_law_step := ok_lstep (P := P) (w := w) (base := base) T
  have G_law_drawn := ok_drawn (P := P) (w := w) (base := base) T
  have G_law_instead := ok_instead (P := P) (w := w) (base := base) T
  have G_law_bad := ok_bad (P := P) (w := w) (base := base) T
  have G_law_same := ok_same (P := P) (w := w) (base := base) T
  have G_law_refusal := ok_refusal (P := P) (w := w) (base := base) T
  have G_Table_init := ok_table (P := P) (w := w) (base := base) T
  have G_follow := ok_follow (P := P) (w := w) (base := base) T
  have G_followU := ok_followT (P := P) (w := w) (base := base) T
  refine T.F_law.ok sc_law (fun vs H Q E h => ?_) (fun cdv A' outer s H vs Q E hr h => ?_)
  · obtain ⟨a, ns, rfl, _⟩ := h
    rfl
  · obtain ⟨a, ns, rfl, hS, hnl, kk⟩ := h
    refine ⟨_, (pss_cons (ps_set (i := 1) sc_law.nd rfl (Or.inl rfl) (pe_call G_law_pool (hr.mono (by decide)) rfl T.mg_law_pool T.F_law_pool.kp T.b_law_pool .nil pass0 (pa_cons (pv 0) (pa_cons pe_int (pa_cons pe_int pa_nil)))))
      (pss_cons (ps_set (i := 2) sc_law.nd rfl (Or.inl rfl) (pe_call G_law_pool (hr.mono (by decide)) rfl T.mg_law_pool T.F_law_pool.kp T.b_law_pool .nil pass0 (pa_cons (pv 0) (pa_cons pe_int (pa_cons pe_int pa_nil)))))
      (pss_cons (ps_set (i := 3) sc_law.nd rfl (Or.inl rfl) (pe_call G_law_pool (hr.mono (by decide)) rfl T.mg_law_pool T.F_law_pool.kp T.b_law_pool .nil pass0 (pa_cons (pv 0) (pa_cons pe_int (pa_cons pe_int pa_nil)))))
      (pss_cons (ps_set (i := 4) sc_law.nd rfl (Or.inl rfl) (pe_call G_law_size (hr.mono (by decide)) rfl T.mg_law_size T.F_law_size.kp T.b_law_size .nil pass0 (pa_cons (pe_ix ix_list (pv 1) pe_int (fun _ _ => rfl)) (pa_cons pe_int pa_nil))))
      (pss_cons (ps_set (i := 5) sc_law.nd rfl (Or.inr rfl) (pe_call G_law_names (hr.mono (by decide)) rfl T.mg_law_names T.F_law_names.kp T.b_law_names .nil pass0 (pa_cons (pv 4) (pa_cons (pe_ix ix_list (pv 1) pe_int (fun _ _ => rfl)) pa_nil))))
      (pss_cons (ps_set (i := 6) sc_law.nd rfl (Or.inl rfl) (pe_call G_law_order (hr.mono (by decide)) rfl T.mg_law_order T.F_law_order.kp T.b_law_order .nil pass0 (pa_cons (pv 5) (pa_cons (pv 1) (pa_cons pe_int pa_nil)))))
      (pss_cons (ps_set (i := 7) sc_law.nd rfl (Or.inl rfl) (pe_op op_mod (pe_callTy call_int1 (by rfl) T.n_int (by decide +kernel) (pa_cons (pe_ix ix_list (pv 1) pe_int (fun _ _ => rfl)) pa_nil)) pe_int))
      (pss_cons (ps_set (i := 8) sc_law.nd rfl (Or.inl rfl) (pe_call G_law_rows (hr.mono (by decide)) rfl T.mg_law_rows T.F_law_rows.kp T.b_law_rows .nil pass0 (pa_cons (pv 5) (pa_cons (pv 6) (pa_cons (pv 1) (pa_cons pe_int (pa_cons (pe_op op_mod (pe_callTy call_int1 (by rfl) T.n_int (by decide +kernel) (pa_cons (pe_ix ix_list (pv 1) pe_int (fun _ _ => rfl)) pa_nil)) pe_int) (pa_cons (pv 7) pa_nil))))))))
      (pss_cons (ps_for PassesOwn.never rfl (pi_list (pe_slice sl_list (pv 0) (po_some pe_int) (po_some pe_int))) (pg_name (i := 9) sc_law.nd rfl (Or.inl rfl))
        (pss_one (ps_expr (pe_bm PySem.F.plainAttrs_list PySem.F.slot_list_append PySem.F.type_list_append mt_append (pv 8) (pa_cons (pe_call G_law_row (hr.mono (by decide)) rfl T.mg_law_row T.F_law_row.kp T.b_law_row .nil pass0 (pa_cons (pv 5) (pa_cons (pv 6) (pa_cons (pe_callB call_abs (by rfl) T.n_abs (by decide +kernel) (pa_cons (pv 9) pa_nil)) (pa_cons (pe_cmpR op_eq (pv 7) pe_int (nomark _)) pa_nil))))) pa_nil)))))
      (pss_cut (ps_if (pt_cmpR op_eq (pe_op op_mod (pe_callTy call_int1 (by rfl) T.n_int (by decide +kernel) (pa_cons (pe_ix ix_list (pv 2) pe_int (fun _ _ => rfl)) pa_nil)) pe_int) pe_int (nomark _)) (pss_one (ps_set (i := 8) sc_law.nd rfl (Or.inl rfl) (pe_op op_cat (pe_op op_cat (pe_op op_cat (pv 8) (pv 8)) (pv 8)) (pv 8)))) pss_nil)
      (pss_cons (ps_set (i := 10) sc_law.nd rfl (Or.inl rfl) (pe_lst pa_nil))
      (pss_cons (ps_set (i := 11) sc_law.nd rfl (Or.inl rfl) (pe_lst pa_nil))
      (pss_cons (ps_set (i := 12) sc_law.nd rfl (Or.inl rfl) (pe_tup (pa_cons pe_str (pa_cons pe_str pa_nil))))
      (pss_cut (ps_for PassesOwn.never rfl (pi_range1 (by rfl) T.n_range (pa_cons (pe_op op_add pe_int (pe_op op_mod (pe_callTy call_int1 (by rfl) T.n_int (by decide +kernel) (pa_cons (pe_ix ix_list (pv 3) pe_int (fun _ _ => rfl)) pa_nil)) pe_int)) pa_nil)) (pg_name (i := 13) sc_law.nd rfl (Or.inl rfl))
        (pss_cons (ps_set (i := 14) sc_law.nd rfl (Or.inl rfl) (pe_call G_law_drawn (hr.mono (by decide)) rfl T.mg_law_drawn T.F_law_drawn.kp T.b_law_drawn .nil pass0 (pa_cons (pe_ix ix_list (pv 3) (pe_op op_add pe_int (pv 13)) (fun _ _ => rfl)) (pa_cons (pv 13) (pa_cons (pv 5) (pa_cons (pv 8) pa_nil))))))
      (pss_cut (ps_set (i := 15) sc_law.nd rfl (Or.inl rfl) (pe_call G_law_step (hr.mono (by decide)) rfl T.mg_law_step T.F_law_step.kp T.b_law_step .nil pass0 (pa_cons (pv 14) (pa_cons (pv 11) (pa_cons (pv 5) (pa_cons (pv 8) pa_nil))))))
      (pss_cut (ps_if (PW.pt (pw_and (pt_cmpR op_isN (pv 15) pe_non (nomark _)) (pw_and (pt_cmpR op_gt (pv 4) pe_int (nomark _)) (pw_and1 (PW.pt (pw_or (pt_cmpR op_eq (pe_op op_mod (pe_callTy call_int1 (by rfl) T.n_int (by decide +kernel) (pa_cons (pe_ix ix_list (pv 2) pe_int (fun _ _ => rfl)) pa_nil)) pe_int) pe_int (nomark _)) (pw_or1 (pt_cmpR op_gt (pe_op op_mod (pe_callTy call_int1 (by rfl) T.n_int (by decide +kernel) (pa_cons (pe_ix ix_list (pv 2) (pe_op op_add pe_int (pv 13)) (fun _ _ => rfl)) pa_nil)) pe_int) pe_int (nomark _))))))))) (pss_cons (ps_set (i := 14) sc_law.nd rfl (Or.inl rfl) (pe_call G_law_instead (hr.mono (by decide)) rfl T.mg_law_instead T.F_law_instead.kp T.b_law_instead .nil pass0 (pa_cons (pe_ix ix_tup (pv 14) pe_int (fun _ _ => rfl)) (pa_cons (pe_ix ix_list (pv 2) (pe_op op_add pe_int (pv 13)) (fun _ _ => rfl)) (pa_cons (pv 11) (pa_cons (pv 5) (pa_cons (pv 8) pa_nil)))))))
      (pss_one (ps_set (i := 15) sc_law.nd rfl (Or.inl rfl) (pe_call G_law_step (hr.mono (by decide)) rfl T.mg_law_step T.F_law_step.kp T.b_law_step .nil pass0 (pa_cons (pv 14) (pa_cons (pv 11) (pa_cons (pv 5) (pa_cons (pv 8) pa_nil)))))))) pss_nil)
      (pss_cons (ps_if (pt_cmpR op_isN (pv 15) pe_non (nomark _)) (pss_cons (ps_set (i := 12) sc_law.nd rfl (Or.inl rfl) (pv 14))
      (pss_one ps_break)) pss_nil)
      (pss_cons (ps_expr (pe_bm PySem.F.plainAttrs_list PySem.F.slot_list_append PySem.F.type_list_append mt_append (pv 10) (pa_cons (pv 14) pa_nil)))
      (pss_one (ps_expr (pe_bm PySem.F.plainAttrs_list PySem.F.slot_list_append PySem.F.type_list_append mt_append (pv 11) (pa_cons (pv 15) pa_nil))))))))))
      (pss_cut (ps_if (PW.pt (pw_and (pt_cmpR op_gt (pe_callB call_len_seq (by rfl) T.n_len (by decide +kernel) (pa_cons (pv 10) pa_nil)) pe_int (nomark _)) (pw_and1 (pt_cmpR (op_eqD hr.units) (pv 12) (pe_tup (pa_cons pe_str (pa_cons pe_str pa_nil))) (nomark _))))) (pss_one (ps_set (i := 12) sc_law.nd rfl (Or.inl rfl) (pe_call G_law_bad (hr.mono (by decide)) rfl T.mg_law_bad T.F_law_bad.kp T.b_law_bad .nil pass0 (pa_cons (pe_ix ix_list (pv 2) pe_int (fun _ _ => rfl)) (pa_cons (pv 11) (pa_cons (pv 8) pa_nil)))))) pss_nil)
      (pss_cons (ps_set (i := 16) sc_law.nd rfl (Or.inl rfl) (pe_ix ix_list (pe_lst (pa_cons (pe_lst pa_nil) (pa_cons (pe_lst (pa_cons (pe_tup (pa_cons pe_str pa_nil)) pa_nil)) (pa_cons (pe_lst (pa_cons (pe_tup (pa_cons pe_str (pa_cons (pe_un un_neg pe_int) pa_nil))) (pa_cons (pe_tup (pa_cons pe_str pa_nil)) pa_nil))) pa_nil)))) (pe_op op_mod (pe_callTy call_int1 (by rfl) T.n_int (by decide +kernel) (pa_cons (pe_ix ix_list (pv 2) pe_int (fun _ _ => rfl)) pa_nil)) pe_int) (fun _ _ => rfl)))
      (pss_cons (ps_set (i := 17) sc_law.nd rfl (Or.inl rfl) (pe_lst (pa_cons (pe_callTy call_list_of (by rfl) T.n_list (by decide +kernel) (pa_cons (pv 5) pa_nil)) (pa_cons (pe_lc (own := [("row", 21)]) (g := gName 21) (tt := tYes) rfl sc_law.nd (pi_list (pv 8)) (blkOk_by (N := ["script", "p0", "p1", "p2", "size", "names", "hidden", "mode", "rows", "cell", "good", "sets", "bad", "k", "step", "made", "behind", "handed", "table", "found", "told", "row"]) (sc := defScope s_law) (by decide +kernel)) (fun _ _ _ _ _ => (pg_name (i := 21) sc_law.nd rfl (Or.inl rfl))) (fun _ _ _ _ _ => pts_nil) (fun _ _ _ _ _ => (pe_callTy (show CallR _ _ (rListOf K) from call_list_of) (by rfl) T.n_list (by decide +kernel) (pa_cons (pv 21) pa_nil)))) (pa_cons (pe_callTy call_list_of (by rfl) T.n_list (by decide +kernel) (pa_cons (pv 10) pa_nil)) (pa_cons (pe_op op_cat (pe_op op_cat (pe_callTy call_list_of (by rfl) T.n_list (by decide +kernel) (pa_cons (pv 10) pa_nil)) (pe_lst (pa_cons (pv 12) pa_nil))) (pv 16)) pa_nil))))))
      (pss_cons (ps_set (i := 18) sc_law.nd rfl (Or.inl rfl) (pe_make T.mk_Table G_Table_init (hr.mono (by decide)) rfl T.mg_Table T.bi .nil pass0 (pa_cons (pe_ix ix_list (pv 17) pe_int (fun _ _ => rfl)) (pa_cons (pe_ix ix_list (pv 17) pe_int (fun _ _ => rfl)) pa_nil))))
      (pss_cut (ps_if (pt_cmpR op_gt (pe_callB call_len_seq (by rfl) T.n_len (by decide +kernel) (pa_cons (pv 10) pa_nil)) pe_int (nomark _)) (pss_cons (ps_set (i := 19) sc_law.nd rfl (Or.inl rfl) (pe_call G_follow (hr.mono (by decide)) rfl T.mg_follow T.F_follow.kp T.b_follow .nil pass0 (pa_cons (pv 18) (pa_cons (pe_ix ix_list (pv 17) pe_int (fun _ _ => rfl)) pa_nil))))
      (pss_cons (ps_if (pt_not (pt_val (pe_call G_law_same (hr.mono (by decide)) rfl T.mg_law_same T.F_law_same.kp T.b_law_same .nil pass0 (pa_cons (pv 19) (pa_cons (pv 11) pa_nil))))) (pss_one (ps_ret pe_bl)) pss_nil)
      (pss_cons (ps_expr (pe_bm PySem.F.plainAttrs_list PySem.F.slot_list_append PySem.F.type_list_append mt_append (pv 19) (pa_cons (pe_tup pa_nil) pa_nil)))
      (pss_one (ps_if (pt_not (pt_val (pe_call G_law_same (hr.mono (by decide)) rfl T.mg_law_same T.F_law_same.kp T.b_law_same .nil pass0 (pa_cons (pe_call G_followU (hr.mono (by decide)) rfl T.mg_follow T.F_follow.kp T.b_follow .nil pass0 (pa_cons (pv 18) (pa_cons (pe_callTy call_tuple_of (by rfl) T.n_tuple (by decide +kernel) (pa_cons (pv 10) pa_nil)) pa_nil))) (pa_cons (pv 11) pa_nil))))) (pss_one (ps_ret pe_bl)) pss_nil))))) pss_nil)
      (pss_cons (ps_set (i := 20) sc_law.nd rfl (Or.inl rfl) (pe_call G_law_refusal (hr.mono (by decide)) rfl T.mg_law_refusal T.F_law_refusal.kp T.b_law_refusal .nil pass0 (pa_cons (pv 18) (pa_cons (pe_ix ix_list (pv 17) pe_int (fun _ _ => rfl)) pa_nil))))
      (pss_cons (ps_if (PW.pt (pw_or (pt_cmpR op_isN (pv 20) pe_non (nomark _)) (pw_or (pt_not (pt_val (pe_call G_law_is_number (hr.mono (by decide)) rfl T.mg_law_is_number T.F_law_is_number.kp T.b_law_is_number .nil pass0 (pa_cons (pe_ix ix_tup (pv 20) pe_int (fun _ _ => rfl)) (pa_cons (pe_callB call_len_seq (by rfl) T.n_len (by decide +kernel) (pa_cons (pv 10) pa_nil)) (pa_cons (pe_callB call_len_seq (by rfl) T.n_len (by decide +kernel) (pa_cons (pv 10) pa_nil)) pa_nil)))))) (pw_or (pt_not (pt_truth (pe_ix ix_tup (pv 20) pe_int (fun _ _ => rfl)) (by intro _; rfl))) (pw_or1 (pt_truth (pe_ix ix_tup (pv 20) pe_int (fun _ _ => rfl)) (by intro _; rfl))))))) (pss_one (ps_ret pe_bl)) pss_nil)
      (pss_cons (ps_if (pt_cmpR (op_neD hr.units) (pe_lc (own := [("row", 21)]) (g := gName 21) (tt := tYes) rfl sc_law.nd (pi_tup (pe_fld (pv 18) rfl)) (blkOk_by (N := ["script", "p0", "p1", "p2", "size", "names", "hidden", "mode", "rows", "cell", "good", "sets", "bad", "k", "step", "made", "behind", "handed", "table", "found", "told", "row"]) (sc := defScope s_law) (by decide +kernel)) (fun _ _ _ _ _ => (pg_name (i := 21) sc_law.nd rfl (Or.inl rfl))) (fun _ _ _ _ _ => pts_nil) (fun _ _ _ _ _ => (pe_callTy (show CallR _ _ (rListOf K) from call_list_of) (by rfl) T.n_list (by decide +kernel) (pa_cons (pv 21) pa_nil)))) (pe_lc (own := [("row", 21)]) (g := gName 21) (tt := tYes) rfl sc_law.nd (pi_list (pv 8)) (blkOk_by (N := ["script", "p0", "p1", "p2", "size", "names", "hidden", "mode", "rows", "cell", "good", "sets", "bad", "k", "step", "made", "behind", "handed", "table", "found", "told", "row"]) (sc := defScope s_law) (by decide +kernel)) (fun _ _ _ _ _ => (pg_name (i := 21) sc_law.nd rfl (Or.inl rfl))) (fun _ _ _ _ _ => pts_nil) (fun _ _ _ _ _ => (pe_call G_law_sorted (hr.mono (by decide)) rfl T.mg_law_sorted T.F_law_sorted.kp T.b_law_sorted .nil pass0 (pa_cons (pv 5) (pa_cons (pv 21) pa_nil))))) (nomark _)) (pss_one (ps_ret pe_bl)) pss_nil)
      (pss_one (ps_ret (pe_cmpR (op_eqD hr.units) (pv 17) (pe_lst (pa_cons (pv 5) (pa_cons (pv 8) (pa_cons (pv 10) (pa_cons (pe_op op_cat (pe_op op_cat (pv 10) (pe_lst (pa_cons (pv 12) pa_nil))) (pv 16)) pa_nil))))) (nomark _)))))))))))))))))))))))))), ?_⟩
    refine ⟨_, rfl, a, ns, 0, 60, rfl, hS, by decide, by decide, by decide, fun p0 q0 H1 s1 hp0 l0 P0 => ?_⟩
    refine ⟨_, rfl, a, ns, 1, 60, rfl, s1.seq hS, by decide, by decide, by decide, fun p1 q1 H2 s2 hp1 l1 P1 => ?_⟩
    refine ⟨_, rfl, a, ns, 2, 60, rfl, (s1.trans s2).seq hS, by decide, by decide, by decide, fun p2 q2 H3 s3 hp2 l2 P2 => ?_⟩
    have hS3 := ((s1.trans s2).trans s3).seq hS
    have hp0 := s3 _ _ (s2 _ _ hp0)
    have hp1 := s3 _ _ hp1
    obtain ⟨x0, hx0, e0⟩ := atI_ok (xs := q0) (j := 0) (by omega) (by omega)
    obtain ⟨x1, hx1, e1⟩ := atI_ok (xs := q0) (j := 1) (by omega) (by omega)
    obtain ⟨x26, hx26, e26⟩ := atI_ok (xs := q0) (j := 26) (by omega) (by omega)
    obtain ⟨x27, hx27, e27⟩ := atI_ok (xs := q0) (j := 27) (by omega) (by omega)
    obtain ⟨y0, hy0, f0⟩ := atI_ok (xs := q1) (j := 0) (by omega) (by omega)
    obtain ⟨y45, hy45, f45⟩ := atI_ok (xs := q1) (j := 45) (by omega) (by omega)
    obtain ⟨y46, hy46, f46⟩ := atI_ok (xs := q1) (j := 46) (by omega) (by omega)
    obtain ⟨y47, hy47, f47⟩ := atI_ok (xs := q1) (j := 47) (by omega) (by omega)
    obtain ⟨z0, hz0, g0⟩ := atI_ok (xs := q2) (j := 0) (by omega) (by omega)
    clear s1 s2 s3 hS
    refine ⟨_, rfl, p0, _, _, _, rfl, rfl, SqL.of hp0, e0, x0, rfl, fun sz H4 s4 hsz => ?_⟩
    refine ⟨_, rfl, _, rfl, p0, _, _, _, rfl, rfl, SqL.of (s4 _ _ hp0), e1, sz, x1, rfl, hsz, fun n cs H5 s5 hn hcl hN => ?_⟩
    have s5 := s4.trans s5
    have cl : cs.length ≤ 12 := by omega
    have nd := hN.1
    have hg : ∀ z ∈ cs, Good z := fun z hz => (hN.2 z hz).1
    have hst := not_in_cs hN
    refine ⟨_, rfl, _, rfl, n, p0, cs, q0, rfl, SqL.of hn, SqL.of (s5 _ _ hp0), cl, by omega, fun h hs H6 s6 hh hperm => ?_⟩
    have hn := s6 _ _ hn
    have s6 := s5.trans s6
    have hp0 := s6 _ _ hp0
    have hp1 := s6 _ _ hp1
    have hp2 := s6 _ _ hp2
    have hS6 := s6.seq hS3
    clear s4 s5 s6 hS3
    refine ⟨_, rfl, p0, _, _, _, rfl, rfl, SqL.of hp0, e27, .inl ⟨_, rfl, _, _, rfl, rfl, by show (0 : Int) < 3; decide, ?_⟩⟩
    have m0 := Int.emod_nonneg x26 (show (7 : Int) ≠ 0 by decide)
    have m1 := Int.emod_lt_of_pos x26 (show (0 : Int) < 7 by decide)
    refine ⟨_, rfl, _, rfl, _, rfl, _, rfl, p0, _, _, _, rfl, rfl, SqL.of hp0, e26, .inl ⟨_, rfl, _, _, rfl, rfl, by show (0 : Int) < 7; decide, _, rfl, n, h, p0, cs, hs, q0, _, _, rfl, SqL.of hn, SqL.of hh, SqL.of hp0, by omega, m0, by omega, nd, cl, hperm, fun r ts rs H7 s7 hr0 hr7 hRw hrl => ?_⟩⟩
    obtain ⟨ys, ey, hyl⟩ := cut_ints ns
    refine ⟨_, rfl, _, rfl, _, rfl, a, _, rfl, s7.seq hS6, fun c0 hc0 => ?_⟩
    rw [ey]
    have hrc : r ≠ c0 := ne_of_none hr7 hc0
    have s8 := same_new (o := .lst (ys.map V.int)) hc0
    refine ⟨c0, rfl, ⟨_, SqL.of upd_same⟩, for_it walk_list (fun i σ H8 => Same H6 H8 ∧ H8 c0 = some (.lst (ys.map V.int)) ∧ ∃ (ts : List Addr) (rs : List (List Str)) (u9 : Option V), σ = [some (.ref a), some (.ref p0), some (.ref p1), some (.ref p2), some (.int (sz : Nat)), some (.ref n), some (.ref h), some (.int (x27 % 3)), some (.ref r), u9, none, none, none, none, none, none, none, none, none, none, none, none] ∧ H8 r = some (.lst (ts.map V.ref)) ∧ Rows H8 r ts cs rs ∧ rs.length ≤ 6 + i)
      ⟨s7.trans s8, upd_same, ts, rs, none, rfl, s8 _ _ hr7, ⟨hRw.1.same s8, hRw.2⟩, by omega⟩ (fun i σ H8 _ q => SqL.of q.2.1) ?_ ?_⟩
    · rintro i x σ H80 H8 hi ⟨sm, hc8, ts, rs, u9, rfl, hr8, hRw, hrl⟩ ⟨rfl, hx⟩
      have hx : (ys.map V.int)[i]? = some x := hx
      have hi : i < ys.length := by rw [List.length_map] at hi; exact hi
      rw [List.getElem?_map, List.getElem?_eq_getElem hi] at hx
      cases hx
      refine ⟨_, rfl, .inl ⟨rfl, _, SqL.of hr8⟩, _, rfl, _, rfl, _, rfl, _, rfl, _, rfl, rfl, n, h, cs, hs, _, _, rfl, SqL.of (sm _ _ hn), SqL.of (sm _ _ hh), nd, cl, hperm, fun t ms H9 s9 ht0 ht ok => ?_⟩
      refine ⟨r, _, _, rfl, rfl, s9 _ _ hr8, small_int (by rw [List.length_map, hRw.1.len]; omega), fun x u e => ?_, ?_, ts ++ [t], rs ++ [ms], _, rfl, ?_, hRw.push s9 ht (ne_of_none hr8 ht0).symm ok, by rw [List.length_append]; show rs.length + 1 ≤ 6 + (i + 1); omega⟩
      · rw [upd_ne (ne_of_none e hr0)]; exact s9 _ _ (sm _ _ e)
      · rw [upd_ne hrc.symm]; exact s9 _ _ hc8
      · rw [List.map_append]; exact upd_same
    · rintro σ H8 ⟨sm, hc8, ts, rs, u9, rfl, hr8, hRw, hrl⟩
      have hrl : rs.length ≤ 12 := by
        have hrl : rs.length ≤ 6 + (ys.map V.int).length := hrl
        rw [List.length_map] at hrl; omega
      refine ⟨fun σ H9 => Same H6 H9 ∧ ∃ (r : Addr) (ts : List Addr) (rs : List (List Str)), σ = [some (.ref a), some (.ref p0), some (.ref p1), some (.ref p2), some (.int (sz : Nat)), some (.ref n), some (.ref h), some (.int (x27 % 3)), some (.ref r), u9, none, none, none, none, none, none, none, none, none, none, none, none] ∧ H9 r = some (.lst (ts.map V.ref)) ∧ Lss .lst H9 ts rs ∧ (∀ x ∈ rs, RowOk cs x) ∧ rs.length ≤ 48, ?_, ?_⟩
      · refine ⟨_, rfl, p1, _, _, _, rfl, rfl, SqL.of (sm _ _ hp1), f47, .inl ⟨_, rfl, _, _, rfl, rfl, by show (0 : Int) < 8; decide, rfl, _, rfl, ite2 (fun hb => ?_) (fun hb => ⟨sm, r, ts, rs, rfl, hr8, hRw.1, hRw.2.2, by omega⟩)⟩⟩
        have ll : (ts.map V.ref).length = rs.length := by rw [List.length_map, hRw.1.len]
        refine ⟨_, rfl, _, rfl, r, r, _, _, rfl, rfl, hr8, hr8, Nat.le_trans (m := 100) (by omega) (by decide), fun a1 ha1 => ?_⟩
        have w1 := same_new (o := .lst (ts.map V.ref ++ ts.map V.ref)) ha1
        refine ⟨_, rfl, a1, r, _, _, rfl, rfl, upd_same, w1 _ _ hr8, Nat.le_trans (m := 100) (by rw [List.length_append]; omega) (by decide), fun a2 ha2 => ?_⟩
        have w2 := w1.trans (same_new (o := .lst (ts.map V.ref ++ ts.map V.ref ++ ts.map V.ref)) ha2)
        refine ⟨_, rfl, a2, r, _, _, rfl, rfl, upd_same, w2 _ _ hr8, Nat.le_trans (m := 100) (by rw [List.length_append, List.length_append]; omega) (by decide), fun a3 ha3 => ?_⟩
        have w3 := w2.trans (same_new (o := .lst (ts.map V.ref ++ ts.map V.ref ++ ts.map V.ref ++ ts.map V.ref)) ha3)
        have L := hRw.1.same w3
        refine ⟨sm.trans w3, a3, ts ++ ts ++ ts ++ ts, rs ++ rs ++ rs ++ rs, rfl, ?_, ((L.apps L).apps L).apps L, fun x hx => ?_, by rw [List.length_append, List.length_append, List.length_append]; omega⟩
        · rw [List.map_append, List.map_append, List.map_append]; exact upd_same
        · simp only [List.mem_append] at hx
          rcases hx with ((hx | hx) | hx) | hx <;> exact hRw.2.2 x hx
      · rintro σ H9 ⟨sm, r, ts, rs, rfl, hr, hR, hok, hrl⟩
        have hn := sm _ _ hn
        have hh := sm _ _ hh
        have hp1 := sm _ _ hp1
        have hp2 := sm _ _ hp2
        refine ⟨by show 0 ≤ sizeLine; decide, fun g hg0 => ?_⟩
        have v1 := same_new (o := .lst []) hg0
        have G1 := upd_same (H := H9) (a := g) (o := .lst [])
        generalize upd H9 g _ = H10 at v1 G1 ⊢
        refine ⟨by show 0 ≤ sizeLine; decide, fun se hse0 => ?_⟩
        have v2' := same_new (o := .lst []) hse0
        have v2 := v1.trans v2'
        have G2 := v2' _ _ G1
        have E2 := upd_same (H := H10) (a := se) (o := .lst [])
        have gse : g ≠ se := ne_of_none G1 hse0
        have hse1 := none_of v1 hse0
        generalize upd H10 se _ = H11 at v2 v2' G2 E2 ⊢
        refine ⟨by show 2 ≤ sizeLine; decide, fun b0 hb0 => ?_⟩
        have v3' := same_new (o := .tup [V.str "one", .str "stranger"]) hb0
        have v3 := v2.trans v3'
        have G3 := v3' _ _ G2
        have E3 := v3' _ _ E2
        have B3 := upd_same (H := H11) (a := b0) (o := .tup [V.str "one", .str "stranger"])
        generalize upd H11 b0 _ = H12 at v3 G3 E3 B3 ⊢
        clear v1 v2 v2' v3' G1 G2 E2
        have hnoS : ∀ sets : List (List Str), stepM cs rs sets (.one "stranger") = none := fun sets => by
          show (if ("stranger" : Str) ∈ cs then some [("stranger" : Str)] else none) = _
          rw [if_neg hst]
        refine ⟨fun σ H => Same H9 H ∧ ∃ (b : Addr) (bs : St) (gs us : List Addr) (ss : List St) (sets : List (List Str)) (u13 u14 u15 : Option V), σ = [some (.ref a), some (.ref p0), some (.ref p1), some (.ref p2), some (.int (sz : Nat)), some (.ref n), some (.ref h), some (.int (x27 % 3)), some (.ref r), u9, some (.ref g), some (.ref se), some (.ref b), u13, u14, u15, none, none, none, none, none, none] ∧
          H g = some (.lst (gs.map V.ref)) ∧ Sts H gs ss ∧ H se = some (.lst (us.map V.ref)) ∧ Lss .lst H us sets ∧ Runs cs rs ss sets ∧ (∀ s ∈ ss, s.ok) ∧ ss.length ≤ 40 ∧ H b = some (.tup bs.enc) ∧ bs.ok ∧ stepM cs rs sets bs = none, ?_, ?_⟩
        · skip
          have n0 := Int.emod_nonneg z0 (show (40 : Int) ≠ 0 by decide)
          have n1 := Int.emod_lt_of_pos z0 (show (0 : Int) < 40 by decide)
          refine ⟨_, rfl, p2, _, _, _, rfl, rfl, SqL.of (v3 _ _ hp2), g0, .inl ⟨_, rfl, _, _, rfl, rfl, by show (0 : Int) < 40; decide, _, _, rfl, rfl, _, rfl, by omega, by omega, ?_⟩⟩
          refine for_range (n := (1 + z0 % 40).toNat) (fun i σ H => Same H9 H ∧ ∃ (gs us : List Addr) (ss : List St) (sets : List (List Str)) (u13 u14 u15 : Option V), σ = [some (.ref a), some (.ref p0), some (.ref p1), some (.ref p2), some (.int (sz : Nat)), some (.ref n), some (.ref h), some (.int (x27 % 3)), some (.ref r), u9, some (.ref g), some (.ref se), some (.ref b0), u13, u14, u15, none, none, none, none, none, none] ∧
            H g = some (.lst (gs.map V.ref)) ∧ Sts H gs ss ∧ H se = some (.lst (us.map V.ref)) ∧ Lss .lst H us sets ∧ (∀ (i : Nat) (t : Addr), us[i]? = some t → t ≠ g) ∧ (∀ (i : Nat) (t : Addr), us[i]? = some t → t ≠ se) ∧ Runs cs rs ss sets ∧ (∀ s ∈ ss, s.ok) ∧ ss.length ≤ i ∧ H b0 = some (.tup [.str "one", .str "stranger"]))
            ⟨v3, [], [], [], [], none, none, none, rfl, G3, Sts.nil, E3, Lss.nil, noT, noT, Runs.nil, (fun s h => nomatch h), Nat.zero_le _, B3⟩ ?_ ?_
          · rintro i σ H13 hi ⟨sm, gs, us, ss, sets, u13, u14, u15, rfl, hG, hGs, hSe, hSs, ng, ns', hRun, hoks, hsl, hB⟩
            have hi40 : i < 40 := by omega
            have hn := sm _ _ hn
            have hr := sm _ _ hr
            have hR := hR.same sm
            have hp1 := sm _ _ hp1
            have hp2 := sm _ _ hp2
            obtain ⟨v, hv, ev⟩ := atI_ok (xs := q2) (j := (1 : Int) + (0 + (i : Int))) (by omega) (by omega)
            obtain ⟨vv, hvv, evv⟩ := atI_ok (xs := q1) (j := (1 : Int) + (0 + (i : Int))) (by omega) (by omega)
            have ssl : sets.length ≤ 100 := by rw [← hRun.1]; omega
            have s12 : ∀ S ∈ sets, S.length ≤ 12 := fun S hS => by
              have := (hRun.cn nd S hS).1
              rw [← this]
              exact Nat.le_trans (List.length_filter_le _ _) cl
            have tl : ts.length ≤ 100 := by rw [hR.len]; omega
            have rl : rs.length ≤ 100 := by omega
            have r12 : ∀ x ∈ rs, x.length ≤ 1000 := fun x hx => by have := (hok x hx).len; omega
            refine ⟨_, rfl, _, rfl, _, _, rfl, rfl, p2, _, _, _, rfl, rfl, SqL.of hp2, ev, _, rfl, _, rfl, _, rfl, v, 0 + (i : Int), n, r, cs, ts, rfl, by omega, by omega, hn, hg, cl, SqL.of hr, tl, fun t s H14 s14 ht ok => ?_⟩
            refine ⟨fun σ H => Same H13 H ∧ ∃ (t : Addr) (s : St) (v : V), σ = [some (.ref a), some (.ref p0), some (.ref p1), some (.ref p2), some (.int (sz : Nat)), some (.ref n), some (.ref h), some (.int (x27 % 3)), some (.ref r), u9, some (.ref g), some (.ref se), some (.ref b0), some (.int (0 + (i : Int))), some (.ref t), some v, none, none, none, none, none, none] ∧ H t = some (.tup s.enc) ∧ s.ok ∧ ((v = .non ∧ stepM cs rs sets s = none) ∨ ∃ (am : Addr) (S : List Str), v = .ref am ∧ H13 am = none ∧ H am = some (.lst (sv S)) ∧ stepM cs rs sets s = some S), ?_, ?_⟩
            · refine ⟨_, rfl, _, rfl, _, rfl, _, rfl, t, se, n, r, s, cs, sets, rs, us, ts, rfl, ht, SqL.of (s14 _ _ hSe), hSs.same s14, SqL.of (s14 _ _ hn), SqL.of (s14 _ _ hr), hR.same s14, ok, cl, ssl, rl, s12, fun hno H15 s15 => ?_, fun S hS0 am H15 s15 ha0 ha => ?_⟩
              · exact ⟨s14.trans s15, t, s, _, rfl, s15 _ _ ht, ok, .inl ⟨rfl, hno⟩⟩
              · exact ⟨s14.trans s15, t, s, _, rfl, s15 _ _ ht, ok, .inr ⟨am, S, rfl, none_of s14 ha0, ha, hS0⟩⟩
            · rintro σ H15 ⟨s15, t, s, mv, rfl, ht, ok, hmv⟩
              refine ⟨fun σ H => Same H13 H ∧ ∃ (t : Addr) (s : St) (v : V), σ = [some (.ref a), some (.ref p0), some (.ref p1), some (.ref p2), some (.int (sz : Nat)), some (.ref n), some (.ref h), some (.int (x27 % 3)), some (.ref r), u9, some (.ref g), some (.ref se), some (.ref b0), some (.int (0 + (i : Int))), some (.ref t), some v, none, none, none, none, none, none] ∧ H t = some (.tup s.enc) ∧ s.ok ∧ ((v = .non ∧ stepM cs rs sets s = none) ∨ ∃ (am : Addr) (S : List Str), v = .ref am ∧ H13 am = none ∧ H am = some (.lst (sv S)) ∧ stepM cs rs sets s = some S), ?_, ?_⟩
              · rcases hmv with ⟨rfl, hno⟩ | ⟨am, S, rfl, ha0, ha, hS0⟩
                · refine ⟨_, rfl, rfl, _, rfl, ifT (decide_eq_true rfl) ?_⟩
                  refine ⟨_, rfl, _, _, rfl, rfl, _, rfl, ite2 (fun hb => ?_) (fun hb => ifF rfl ⟨s15, t, s, _, rfl, ht, ok, .inl ⟨rfl, hno⟩⟩)⟩
                  have c0 : 0 < cs.length := by have := of_decide_eq_true hb; omega
                  obtain ⟨zw, zr, ez⟩ := enc_word s
                  refine ⟨_, rfl, p1, _, _, _, rfl, rfl, SqL.of (s15 _ _ hp1), f0, .inl ⟨_, rfl, _, _, rfl, rfl, by show (0 : Int) < 3; decide, rfl, _, rfl, ite2 (fun hb2 => ?_) (fun hb2 => ⟨_, rfl, _, rfl, _, _, rfl, rfl, p1, _, _, _, rfl, rfl, SqL.of (s15 _ _ hp1), evv, .inl ⟨_, rfl, _, _, rfl, rfl, by show (0 : Int) < 9; decide, _, _, rfl, rfl, _, rfl, ite2 (fun hb3 => ?_) (fun hb3 => ⟨s15, t, s, _, rfl, ht, ok, .inl ⟨rfl, hno⟩⟩)⟩⟩)⟩⟩
                  all_goals
                    refine ⟨_, rfl, t, _, _, _, rfl, rfl, SqT.of ht, by rw [ez]; exact at0 _ _, _, rfl, _, rfl, _, _, rfl, rfl, p1, _, _, _, rfl, rfl, SqL.of (s15 _ _ hp1), evv, _, rfl, _, rfl, _, rfl, zw, vv, se, n, r, cs, sets, rs, us, ts, rfl, SqL.of (s15 _ _ hSe), hSs.same s15, SqL.of (s15 _ _ hn), SqL.of (s15 _ _ hr), hR.same s15, hg, c0, cl, ssl, rl, s12, r12, fun t2 s2 H16 s16 ht2 ok2 => ?_⟩
                    have s16 := s15.trans s16
                    refine ⟨_, rfl, _, rfl, _, rfl, _, rfl, t2, se, n, r, s2, cs, sets, rs, us, ts, rfl, ht2, SqL.of (s16 _ _ hSe), hSs.same s16, SqL.of (s16 _ _ hn), SqL.of (s16 _ _ hr), hR.same s16, ok2, cl, ssl, rl, s12, fun hno H17 s17 => ?_, fun S hS0 am H17 s17 ha0 ha => ?_⟩
                    · exact ⟨s16.trans s17, t2, s2, _, rfl, s17 _ _ ht2, ok2, .inl ⟨rfl, hno⟩⟩
                    · exact ⟨s16.trans s17, t2, s2, _, rfl, s17 _ _ ht2, ok2, .inr ⟨am, S, rfl, none_of s16 ha0, ha, hS0⟩⟩
                · refine ⟨_, rfl, rfl, _, rfl, ifF (decide_eq_false (fun z => nomatch z)) (ifF rfl ⟨s15, t, s, _, rfl, ht, ok, .inr ⟨am, S, rfl, ha0, ha, hS0⟩⟩)⟩
              · rintro σ H18 ⟨s18, t, s, mv, rfl, ht, ok, hmv⟩
                have hG' := s18 _ _ hG
                have hSe' := s18 _ _ hSe
                rcases hmv with ⟨rfl, hno⟩ | ⟨am, S, rfl, ha0, ha, hS0⟩
                · refine ⟨_, rfl, rfl, _, rfl, ifT (decide_eq_true rfl) ⟨_, rfl, ?_⟩⟩
                  exact ⟨sm.trans s18, t, s, gs, us, ss, sets, _, _, _, rfl, hG', hGs.same s18, hSe', hSs.same s18, hRun, hoks, by omega, ht, ok, hno⟩
                · refine ⟨_, rfl, rfl, _, rfl, ifF (decide_eq_false (fun z => nomatch z)) ?_⟩
                  have lg : (gs.map V.ref).length = ss.length := by rw [List.length_map, hGs.1]
                  have lu : (us.map V.ref).length = sets.length := by rw [List.length_map, hSs.len]
                  have amg : am ≠ g := (ne_of_none hG ha0).symm
                  have ams : am ≠ se := (ne_of_none hSe ha0).symm
                  have hSe2 : upd H18 g (.lst (gs.map V.ref ++ [V.ref t])) se = some (.lst (us.map V.ref)) := by rw [upd_ne gse.symm]; exact hSe'
                  refine ⟨_, rfl, .inl ⟨rfl, _, SqL.of hG'⟩, _, rfl, g, _, _, rfl, rfl, hG', small_int (by omega), ?_⟩
                  refine ⟨_, rfl, .inl ⟨rfl, _, SqL.of hSe2⟩, _, rfl, se, _, _, rfl, rfl, hSe2, small_int (by omega), ?_⟩
                  refine ⟨fun x u e => ?_, gs ++ [t], us ++ [am], ss ++ [s], sets ++ [S], _, _, _, rfl, ?_, ?_, ?_, ?_, ne_app ng amg, ne_app ns' ams, hRun.app hS0, one_ok ok hoks, by rw [List.length_append]; show ss.length + 1 ≤ i + 1; omega, ?_⟩
                  · have e2 := s18 _ _ (sm _ _ e)
                    rw [upd_ne (ne_of_none e hse1), upd_ne (ne_of_none e hg0)]; exact e2
                  · rw [upd_ne gse, upd_same, List.map_append]; rfl
                  · exact (((hGs.same s18).app ht).upd hG' (fun xs z => nomatch z)).upd hSe2 (fun xs z => nomatch z)
                  · rw [upd_same, List.map_append]; rfl
                  · exact ((((hSs.same s18).app ha).updNe (ne_app ng amg))).updNe (ne_app ns' ams)
                  · have hB' := s18 _ _ hB
                    rw [upd_ne (ne_of hB' hSe' (fun z => nomatch z)), upd_ne (ne_of hB' hG' (fun z => nomatch z))]; exact hB'
          · rintro σ H13 ⟨sm, gs, us, ss, sets, u13, u14, u15, rfl, hG, hGs, hSe, hSs, ng, ns', hRun, hoks, hsl, hB⟩
            exact ⟨sm, b0, .one "stranger", gs, us, ss, sets, _, _, _, rfl, hG, hGs, hSe, hSs, hRun, hoks, by omega, hB, good_stranger, hnoS sets⟩
        · skip
          rintro σ H20 ⟨sm, b, bs, gs, us, ss, sets, u13, u14, u15, rfl, hG, hGs, hSe, hSs, hRun, hoks, hsl, hb, okb, hno⟩
          have hn := sm _ _ hn
          have hr := sm _ _ hr
          have hR := hR.same sm
          have hp1 := sm _ _ hp1
          have ssl : sets.length ≤ 100 := by rw [← hRun.1]; omega
          have s12 : ∀ S ∈ sets, S.length ≤ 12 := fun S hS => by
            have := (hRun.cn nd S hS).1
            rw [← this]
            exact Nat.le_trans (List.length_filter_le _ _) cl
          have gsets : ∀ S ∈ sets, ∀ z ∈ S, Good z := fun S hS z hz => hg z ((hRun.cn nd S hS).1.sub hz)
          have rl : rs.length ≤ 100 := by omega
          have lg : (gs.map V.ref).length = ss.length := by rw [List.length_map, hGs.1]
          clear sm v3 G3 E3 B3 hp0 hS6
          refine ⟨fun σ H => Same H20 H ∧ ∃ (b : Addr) (bs : St), σ = [some (.ref a), some (.ref p0), some (.ref p1), some (.ref p2), some (.int (sz : Nat)), some (.ref n), some (.ref h), some (.int (x27 % 3)), some (.ref r), u9, some (.ref g), some (.ref se), some (.ref b), u13, u14, u15, none, none, none, none, none, none] ∧ H b = some (.tup bs.enc) ∧ bs.ok ∧ stepM cs rs sets bs = none, ?_, ?_⟩
          · refine ⟨_, rfl, g, _, rfl, .inl (SqL.of hG), _, _, rfl, rfl, _, rfl, ite2 (fun hb1 => ?_) (fun hb1 => ifF rfl ⟨Same.refl _, b, bs, rfl, hb, okb, hno⟩)⟩
            refine ⟨_, rfl, by show 2 ≤ sizeLine; decide, fun q hq => ?_⟩
            have w1 := same_new (o := .tup [V.str "one", .str "stranger"]) hq
            refine ⟨.tuple bs.dat, .tuple (St.one "stranger").dat, .tup (xs := bs.enc) (SqT.of (w1 _ _ hb)) (dp_enc bs), .tup (xs := (St.one "stranger").enc) (SqT.of upd_same) (dp_enc _), shapedT (lay_dat okb) (Nat.le_trans (depth_dat _) (by decide)), shapedT (lay_dat (s := St.one "stranger") good_stranger) (Nat.le_trans (depth_dat _) (by decide)), _, rfl, ite2 (fun hb2 => ?_) (fun hb2 => ⟨w1, b, bs, rfl, w1 _ _ hb, okb, hno⟩)⟩
            exact ⟨_, rfl, p1, _, _, _, rfl, rfl, SqL.of (w1 _ _ hp1), f45, _, rfl, _, rfl, y45, se, r, cs, sets, rs, us, ts, rfl, SqL.of (w1 _ _ hSe), hSs.same w1, ssl, s12, SqL.of (w1 _ _ hr), hR.len, rl, hst, fun t s H21 s21 ht ok hn2 => ⟨w1.trans s21, t, s, rfl, ht, ok, hn2⟩⟩
          · clear hb okb hno
            rintro σ H21 ⟨sm, b, bs, rfl, hb, okb, hno⟩
            -- behind
            refine ⟨by show 0 ≤ sizeLine; decide, fun b1 hb1 => ?_⟩
            have d1 := same_new (o := .lst []) hb1
            have e1 := d1
            have B1 := upd_same (H := H21) (a := b1) (o := .lst [])
            generalize upd H21 b1 _ = H22 at d1 e1 B1 ⊢
            refine ⟨by show 1 ≤ sizeLine; decide, fun t1 ht1 => ?_⟩
            have d2 := same_new (o := .tup [V.str "all"]) ht1
            have e2 := e1.trans d2
            have T1 := upd_same (H := H22) (a := t1) (o := .tup [V.str "all"])
            have B1 := d2 _ _ B1
            generalize upd H22 t1 _ = H23 at d2 e2 B1 T1 ⊢
            refine ⟨by show 1 ≤ sizeLine; decide, fun b2 hb2 => ?_⟩
            have d3 := same_new (o := .lst [V.ref t1]) hb2
            have e3 := e2.trans d3
            have T1 := d3 _ _ T1
            have B1 := d3 _ _ B1
            have B2 := upd_same (H := H23) (a := b2) (o := .lst [V.ref t1])
            generalize upd H23 b2 _ = H24 at d3 e3 B1 T1 B2 ⊢
            refine ⟨_, rfl, by show 2 ≤ sizeLine; decide, fun t2 ht2 => ?_⟩
            have d4 := same_new (o := .tup [V.str "row", .int (-1)]) ht2
            have e4 := e3.trans d4
            have T1 := d4 _ _ T1
            have B1 := d4 _ _ B1
            have B2 := d4 _ _ B2
            have T2 := upd_same (H := H24) (a := t2) (o := .tup [V.str "row", .int (-1)])
            generalize upd H24 t2 _ = H25 at d4 e4 B1 T1 B2 T2 ⊢
            refine ⟨by show 1 ≤ sizeLine; decide, fun t3 ht3 => ?_⟩
            have d5 := same_new (o := .tup [V.str "all"]) ht3
            have e5 := e4.trans d5
            have T1 := d5 _ _ T1
            have B1 := d5 _ _ B1
            have B2 := d5 _ _ B2
            have T2 := d5 _ _ T2
            have T3 := upd_same (H := H25) (a := t3) (o := .tup [V.str "all"])
            generalize upd H25 t3 _ = H26 at d5 e5 B1 T1 B2 T2 T3 ⊢
            refine ⟨by show 2 ≤ sizeLine; decide, fun b3 hb3 => ?_⟩
            have d6 := same_new (o := .lst [V.ref t2, .ref t3]) hb3
            have e6 := e5.trans d6
            have T1 := d6 _ _ T1
            have B1 := d6 _ _ B1
            have B2 := d6 _ _ B2
            have T2 := d6 _ _ T2
            have T3 := d6 _ _ T3
            have B3 := upd_same (H := H26) (a := b3) (o := .lst [V.ref t2, .ref t3])
            generalize upd H26 b3 _ = H27 at d6 e6 B1 T1 B2 T2 T3 B3 ⊢
            refine ⟨by show 3 ≤ sizeLine; decide, fun lo hlo => ?_⟩
            have d7 := same_new (o := .lst [V.ref b1, .ref b2, .ref b3]) hlo
            have e7 := sm.trans (e6.trans d7)
            have LO := upd_same (H := H27) (a := lo) (o := .lst [V.ref b1, .ref b2, .ref b3])
            obtain ⟨bb, bts, bss, ebb, hbb, Sbb, okbb, lbb⟩ : ∃ (bb : Addr) (bts : List Addr) (bss : List St), atI [V.ref b1, .ref b2, .ref b3] (y46 % 3) = some (V.ref bb) ∧ H27 bb = some (.lst (bts.map V.ref)) ∧ Sts H27 bts bss ∧ (∀ s ∈ bss, s.ok) ∧ bss.length ≤ 2 := by
              have i0 := Int.emod_nonneg y46 (show (3 : Int) ≠ 0 by decide)
              have i1 := Int.emod_lt_of_pos y46 (show (0 : Int) < 3 by decide)
              rcases (show y46 % 3 = 0 ∨ y46 % 3 = 1 ∨ y46 % 3 = 2 by omega) with e | e | e
              · exact ⟨b1, [], [], by rw [e]; rfl, B1, Sts.nil, (fun s h => nomatch h), by decide⟩
              · exact ⟨b2, [t1], [.all], by rw [e]; rfl, B2, Sts.app (s := .all) Sts.nil T1, (fun s h => by rw [List.mem_singleton.mp h]; trivial), by decide⟩
              · refine ⟨b3, [t2, t3], [.row (-1), .all], by rw [e]; rfl, B3, Sts.app (s := .all) (Sts.app (s := .row (-1)) Sts.nil T2) T3, (fun s h => ?_), by decide⟩
                simp only [List.mem_cons, List.not_mem_nil, or_false] at h
                rcases h with rfl | rfl
                · exact ⟨by decide, by decide⟩
                · trivial
            refine ⟨_, rfl, p1, _, _, _, rfl, rfl, SqL.of (d7 _ _ (e6 _ _ (sm _ _ hp1))), f46, .inl ⟨_, rfl, _, _, rfl, rfl, by show (0 : Int) < 3; decide, lo, _, _, _, rfl, rfl, SqL.of LO, ebb, ?_⟩⟩
            have hbb := d7 _ _ hbb
            have Sbb := Sbb.same d7
            have hb := d7 _ _ (e6 _ _ hb)
            have hn := e7 _ _ hn
            have hr := e7 _ _ hr
            have hR := hR.same e7
            have hG := e7 _ _ hG
            have hGs := hGs.same e7
            have hSe := e7 _ _ hSe
            have hSs := hSs.same e7
            have lb : (bts.map V.ref).length = bss.length := by rw [List.length_map, Sbb.1]
            generalize upd H27 lo _ = H28 at hbb Sbb hb hn hr hR hG hGs hSe hSs ⊢
            clear d1 d2 d3 d4 d5 d6 d7 e1 e2 e3 e4 e5 e6 e7 LO B1 B2 B3 T1 T2 T3 hlo hb1 hb2 hb3 ht1 ht2 ht3 sm ebb hp1
            -- handed
            refine ⟨_, rfl, n, _, rfl, .inl (SqL.of hn), fun l1 hl1 => ?_⟩
            have s1 := same_new (o := .lst (sv cs)) hl1
            have L1 := upd_same (H := H28) (a := l1) (o := .lst (sv cs))
            generalize upd H28 l1 _ = H29 at s1 L1 ⊢
            refine ⟨_, rfl, r, rfl, ⟨_, SqL.of (s1 _ _ hr)⟩, fun D hD => lc_it walk_list (fun i H8 => LcL H29 D (rs.take i) H8) (lcl0 hD) (fun i H8 _ q => (s1.trans q.1).seq (SqL.of hr)) ?_ ?_⟩
            · rintro i x H80 H8 hi q8 ⟨rfl, hx⟩
              obtain ⟨c, hc, rfl⟩ := refs_get hx
              obtain ⟨y, hy, ho8⟩ := ((hR.same s1).same q8.1).get hc
              refine ⟨rfl, _, rfl, c, _, rfl, .inl (SqL.of ho8), fun a' ha' => ?_⟩
              rw [take_succ hy]
              exact q8.new hD ha' (by rw [List.length_take]; omega)
            rintro H30 ⟨s30, dts, hD30, hDl, _⟩
            rw [List.length_map, hR.len, List.take_length] at hDl
            have s2 := s1.trans s30
            have L1 := s30 _ _ L1
            refine ⟨_, rfl, g, _, rfl, .inl (SqL.of (s2 _ _ hG)), fun l3 hl3 => ?_⟩
            have d3 := same_new (o := .lst (gs.map V.ref)) hl3
            have s3 := s2.trans d3
            have L1 := d3 _ _ L1
            have LD := d3 _ _ hD30
            have hDl := hDl.same d3
            have L3 := upd_same (H := H30) (a := l3) (o := .lst (gs.map V.ref))
            generalize upd H30 l3 _ = H31 at d3 s3 L1 LD hDl L3 ⊢
            refine ⟨_, rfl, g, _, rfl, .inl (SqL.of (s3 _ _ hG)), fun l4 hl4 => ?_⟩
            have d4 := same_new (o := .lst (gs.map V.ref)) hl4
            have L4 := upd_same (H := H31) (a := l4) (o := .lst (gs.map V.ref))
            generalize upd H31 l4 _ = H32 at d4 L4 ⊢
            refine ⟨_, rfl, by show 1 ≤ sizeLine; decide, fun l5 hl5 => ?_⟩
            have d5 := same_new (o := .lst [V.ref b]) hl5
            have L5 := upd_same (H := H32) (a := l5) (o := .lst [V.ref b])
            have L4 := d5 _ _ L4
            have d5 := d4.trans d5
            generalize upd H32 l5 _ = H33 at d5 L4 L5 ⊢
            refine ⟨l4, l5, _, _, rfl, rfl, L4, L5, Nat.le_trans (m := 100) (by rw [lg]; show ss.length + 1 ≤ 100; omega) (by decide), fun l6 hl6 => ?_⟩
            have d6 := d5.trans (same_new (o := .lst (gs.map V.ref ++ [V.ref b])) hl6)
            have L6 := upd_same (H := H33) (a := l6) (o := .lst (gs.map V.ref ++ [V.ref b]))
            generalize upd H33 l6 _ = H34 at d6 L6 ⊢
            refine ⟨_, rfl, l6, bb, _, _, rfl, rfl, L6, d6 _ _ (s3 _ _ hbb), Nat.le_trans (m := 100) (by rw [List.length_append, lg, lb]; show ss.length + 1 + bss.length ≤ 100; omega) (by decide), fun l7 hl7 => ?_⟩
            have d7 := d6.trans (same_new (o := .lst (gs.map V.ref ++ [V.ref b] ++ bts.map V.ref)) hl7)
            have L7 := upd_same (H := H34) (a := l7) (o := .lst (gs.map V.ref ++ [V.ref b] ++ bts.map V.ref))
            generalize upd H34 l7 _ = H35 at d7 L7 ⊢
            refine ⟨by show 4 ≤ sizeLine; decide, fun hd hhd => ?_⟩
            have d8 := same_new (o := .lst [V.ref l1, .ref D, .ref l3, .ref l7]) hhd
            have L8 := upd_same (H := H35) (a := hd) (o := .lst [V.ref l1, .ref D, .ref l3, .ref l7])
            have L7 := d8 _ _ L7
            have d8 := d7.trans d8
            have s4 := s3.trans d8
            have L1 := d8 _ _ L1
            have LD := d8 _ _ LD
            have hDl := hDl.same d8
            have L3 := d8 _ _ L3
            generalize upd H35 hd _ = H36 at d8 s4 L1 LD hDl L3 L7 L8 ⊢
            have at0' : atI [V.ref l1, .ref D, .ref l3, .ref l7] 0 = some (.ref l1) := at0 _ _
            have at1' : atI [V.ref l1, .ref D, .ref l3, .ref l7] 1 = some (.ref D) := at1 _ _ _
            have at2' : atI [V.ref l1, .ref D, .ref l3, .ref l7] 2 = some (.ref l3) := at2 _ _ _ _
            have at3' : atI [V.ref l1, .ref D, .ref l3, .ref l7] 3 = some (.ref l7) := by show atI _ ((3 : Nat) : Int) = _; exact atI_nat rfl
            -- the table
            refine ⟨_, rfl, hd, _, _, _, rfl, rfl, SqL.of L8, at0', _, rfl, hd, _, _, _, rfl, rfl, SqL.of L8, at1', fun tt0 dx nx ndx nex => ?_⟩
            have st : Same H36 (upd (upd H36 dx (HO.own tt0)) tt0 (HO.ins A.C_Table dx [])) := (same_new ndx).trans (same_new (by rw [upd_ne nex.symm]; exact nx))
            refine ⟨tt0, l1, D, dx, cs, dts, rs, rfl, upd_same, st.seq (SqL.of L1), st.seq (SqL.of LD), hDl.same st, hg, nd, cl, hrl, (fun x hx => ⟨(hok x hx).stray, by have := (hok x hx).len; omega⟩), fun H37 sm9 tb => ⟨rfl, ?_⟩⟩
            have s37 : Same H36 H37 := fun c o' e => sm9 c o' (ne_of_none e nx) (st _ _ e)
            have s5 := s4.trans s37
            have hn := s5 _ _ hn
            have hr := s5 _ _ hr
            have hR := hR.same s5
            have hG := s5 _ _ hG
            have hGs := hGs.same s5
            have hSe := s5 _ _ hSe
            have hSs := hSs.same s5
            have hb := s5 _ _ hb
            have hbb := s5 _ _ hbb
            have Sbb := Sbb.same s5
            have L1 := s37 _ _ L1
            have LD := s37 _ _ LD
            have hDl := hDl.same s37
            have L3 := s37 _ _ L3
            have L7 := s37 _ _ L7
            have L8 := s37 _ _ L8
            clear st sm9 s5 s37 s4 s3 s2 s1 d3 d4 d5 d6 d7 d8 L4 L5 L6 nx ndx nex hhd hl7 hl6 hl5 hl4 hl3 hD30 s30
            refine ⟨fun σ H => Same H37 H ∧ ∃ u19 : Option V, σ = [some (.ref a), some (.ref p0), some (.ref p1), some (.ref p2), some (.int (sz : Nat)), some (.ref n), some (.ref h), some (.int (x27 % 3)), some (.ref r), u9, some (.ref g), some (.ref se), some (.ref b), u13, u14, u15, some (.ref bb), some (.ref hd), some (.ref tt0), u19, none, none], ?_, ?_⟩
            · refine ⟨_, rfl, g, _, rfl, .inl (SqL.of hG), _, _, rfl, rfl, _, rfl, ite2 (fun hb1 => ?_) (fun hb1 => ⟨Same.refl _, _, rfl⟩)⟩
              refine ⟨_, rfl, _, rfl, hd, _, _, _, rfl, rfl, SqL.of L8, at2', tt0, l3, cs, rs, sets, gs, ss, rfl, tb, SqL.of L3, hGs, hoks, hRun, nd, cl, hrl, by omega, fun F fus H38 s38 hF0 hF hFl => ?_⟩
              refine ⟨_, rfl, _, rfl, F, se, sets, fus, us, rfl, hF, hFl, SqL.of (s38 _ _ hSe), hSs.same s38, ssl, gsets, fun H39 s39 => ⟨_, rfl, iteF ?_⟩⟩
              have hF9 := s39 _ _ hF
              have s9 := s38.trans s39
              refine ⟨_, rfl, .inl ⟨rfl, _, SqL.of hF9⟩, by show 0 ≤ sizeLine; decide, fun q hq => ?_⟩
              have w1 := same_new (o := .tup []) hq
              have lf : (fus.map V.ref).length = sets.length := by rw [List.length_map, hFl.len]
              refine ⟨F, _, _, rfl, rfl, w1 _ _ hF9, small_int (by omega), ?_⟩
              have s10 : Same H37 (upd (upd H39 q (.tup [])) F (.lst (fus.map V.ref ++ [V.ref q]))) := fun x u e => by
                rw [upd_ne (ne_of_none e hF0)]; exact w1 _ _ (s9 _ _ e)
              generalize upd (upd H39 q (.tup [])) F _ = H40 at s10 ⊢
              refine ⟨_, rfl, _, rfl, g, _, rfl, .inl ⟨SqL.of (s10 _ _ hG), fun tg htg => ?_⟩⟩
              have s11 := s10.trans (same_new (o := .tup (gs.map V.ref)) htg)
              refine ⟨tt0, tg, cs, rs, sets, gs, ss, rfl, tb.same s11, SqT.of upd_same, hGs.same s11, hoks, hRun, nd, cl, hrl, by omega, fun F2 fus2 H41 s41 hF20 hF2 hFl2 => ?_⟩
              have s12 := s11.trans s41
              refine ⟨_, rfl, F2, se, sets, fus2, us, rfl, hF2, hFl2, SqL.of (s12 _ _ hSe), hSs.same s12, ssl, gsets, fun H42 s42 => ⟨_, rfl, iteF ?_⟩⟩
              exact ⟨s12.trans s42, _, rfl⟩
            · rintro σ H38 ⟨s38, u19, rfl⟩
              obtain ⟨dt, ct, rt, tus, htp, hct, hrt, htl⟩ := id (tb.same s38)
              have eL : gs.map V.ref ++ [V.ref b] ++ bts.map V.ref = ((gs ++ [b]) ++ bts).map V.ref := by rw [List.map_append, List.map_append]; rfl
              have eS : (ss ++ [bs]) ++ bss = ss ++ bs :: bss := by rw [List.append_assoc]; rfl
              have SA : Sts H38 ((gs ++ [b]) ++ bts) ((ss ++ [bs]) ++ bss) := (((hGs.app hb).apps Sbb)).same s38
              have SA2 := SA
              rw [eS] at SA
              have oksb : ∀ s ∈ (ss ++ [bs]) ++ bss, s.ok := fun s hs => (List.mem_append.mp hs).elim (one_ok okb hoks s) (okbb s)
              have gr : ∀ r ∈ rs, ∀ z ∈ r, Good z := fun r hr => (hok r hr).good hg
              have gc : ∀ r ∈ rs.map (canon cs), ∀ z ∈ r, Good z := fun r hr z hz => by
                obtain ⟨x, _, rfl⟩ := List.mem_map.mp hr
                exact hg z (mem_canon.mp hz).1
              have dc : PyData.depthAll (pdr (rs.map (canon cs))) ≤ 20 := Nat.le_trans (depth_pdr _) (by decide)
              refine ⟨_, rfl, _, rfl, hd, _, _, _, rfl, rfl, SqL.of (s38 _ _ L8), at3', tt0, l7, cs, rs, sets, (gs ++ [b]) ++ bts, ss, bss, bs, rfl, tb.same s38, SqL.of (by rw [← eL]; exact s38 _ _ L7), SA, hoks, okb, hRun, hno, nd, cl, hrl, by omega, fun t H39 s39' ht => ?_⟩
              have s39 := s38.trans s39'
              refine ⟨_, rfl, rfl, _, rfl, ifF (decide_eq_false (fun z => nomatch z)) ?_⟩
              refine ⟨_, rfl, t, _, _, _, rfl, rfl, SqT.of ht, at0 _ _, _, rfl, g, _, rfl, .inl (SqL.of (s39 _ _ hG)), _, rfl, g, _, rfl, .inl (SqL.of (s39 _ _ hG)), _, _, _, rfl, _, rfl, ifF (by rw [decide_eq_true (by rw [lg]; exact ⟨Int.le_refl _, Int.le_refl _⟩)]; rfl) ?_⟩
              refine ⟨_, rfl, t, _, _, _, rfl, rfl, SqT.of ht, at1 _ _ _, true, rfl, ifF rfl ?_⟩
              refine ⟨_, rfl, t, _, _, _, rfl, rfl, SqT.of ht, at2 _ _ _ _, false, rfl, ifF rfl ?_⟩
              have htp := s39' _ _ htp
              have hrt := s39' _ _ hrt
              have htl := htl.same s39'
              have lrc : (rs.map (canon cs)).length ≤ 48 := by rw [List.length_map]; exact hrl
              refine ⟨_, rfl, _, _, _, _, _, rfl, htp, T.cl_Table, T.n_Table_rows, fldsT_rows _ _, rt, rfl, ⟨_, SqT.of hrt⟩, fun D1 hD1 => lc_it walk_tup (fun i H8 => LcL H39 D1 ((rs.map (canon cs)).take i) H8) (lcl0 hD1) (fun i H8 _ q => q.1.tup (SqT.of hrt)) ?_ ?_⟩
              · rintro i x H80 H8 hi q8 ⟨rfl, hx⟩
                obtain ⟨c, hc, rfl⟩ := refs_get hx
                obtain ⟨y, hy, ho8⟩ := (htl.same q8.1).get hc
                refine ⟨rfl, _, rfl, c, _, rfl, .inr (SqT.of ho8), fun a' ha' => ?_⟩
                rw [take_succ hy]
                exact q8.new hD1 ha' (by rw [List.length_take]; omega)
              rintro H40 ⟨s40, vs1, hV1, hvl1, _⟩
              rw [List.length_map, htl.len, List.take_length] at hvl1
              have s41 := s39.trans s40
              refine ⟨_, rfl, r, rfl, ⟨_, SqL.of (s41 _ _ hr)⟩, fun D2 hD2 => lc_it walk_list (fun i H8 => LcL H40 D2 ((rs.map (canon cs)).take i) H8) (lcl0 hD2) (fun i H8 _ q => (s41.trans q.1).seq (SqL.of hr)) ?_ ?_⟩
              · rintro i x H80 H8 hi q8 ⟨rfl, hx⟩
                obtain ⟨c, hc, rfl⟩ := refs_get hx
                obtain ⟨y, hy, ho8⟩ := ((hR.same s41).same q8.1).get hc
                have hy2 : (rs.map (canon cs))[i]? = some (canon cs y) := by rw [List.getElem?_map, hy]; rfl
                refine ⟨rfl, _, rfl, _, rfl, n, c, cs, y, rfl, (s41.trans q8.1).seq (SqL.of hn), SqL.of ho8, by omega, fun a' H9 s9 ha0 ha => ?_⟩
                have hne : a' ≠ D2 := by
                  obtain ⟨_, xs, hd2, _⟩ := q8
                  exact (ne_of_none hd2 ha0).symm
                rw [take_succ hy2]
                exact q8.push hD2 s9 ha hne (by rw [List.length_take]; omega)
              rintro H42 ⟨s42, vs2, hV2, hvl2, _⟩
              have el2 : (ts.map V.ref).length = (rs.map (canon cs)).length := by rw [List.length_map, List.length_map, hR.len]
              rw [el2, List.take_length] at hvl2
              refine ⟨.list (pdr (rs.map (canon cs))), .list (pdr (rs.map (canon cs))), .lst (SqL.of (s42 _ _ hV1)) (dp_pdr (hvl1.same s42)), .lst (SqL.of hV2) (dp_pdr hvl2), shapedL (lay_pdr gc) dc, shapedL (lay_pdr gc) dc, _, rfl, ifF (by rw [eqvL (lay_pdr gc)]; rfl) ?_⟩
              have s43 := s41.trans s42
              refine ⟨_, rfl, _, rfl, _, rfl, _, rfl, _, rfl, _, rfl, by show 1 ≤ sizeLine; decide, fun m1 hm1 => ?_⟩
              have f1 := s43.trans (same_new (o := .lst [V.ref b]) hm1)
              refine ⟨g, m1, _, _, rfl, rfl, f1 _ _ hG, upd_same, Nat.le_trans (m := 100) (by rw [lg]; show ss.length + 1 ≤ 100; omega) (by decide), fun m2 hm2 => ?_⟩
              have f2 := f1.trans (same_new (o := .lst (gs.map V.ref ++ [V.ref b])) hm2)
              refine ⟨_, rfl, m2, bb, _, _, rfl, rfl, upd_same, f2 _ _ hbb, Nat.le_trans (m := 100) (by rw [List.length_append, lg, lb]; show ss.length + 1 + bss.length ≤ 100; omega) (by decide), fun m3 hm3 => ?_⟩
              have f3 := f2.trans (same_new (o := .lst (gs.map V.ref ++ [V.ref b] ++ bts.map V.ref)) hm3)
              have M3 := upd_same (H := upd (upd H42 m1 (.lst [V.ref b])) m2 (.lst (gs.map V.ref ++ [V.ref b]))) (a := m3) (o := .lst (gs.map V.ref ++ [V.ref b] ++ bts.map V.ref))
              refine ⟨by show 4 ≤ sizeLine; decide, fun m4 hm4 => ?_⟩
              have q4 := same_new (o := .lst [V.ref n, .ref r, .ref g, .ref m3]) hm4
              have f4 := f3.trans q4
              have M3 := q4 _ _ M3
              have M4 := upd_same (H := upd (upd (upd H42 m1 (.lst [V.ref b])) m2 (.lst (gs.map V.ref ++ [V.ref b]))) m3 (.lst (gs.map V.ref ++ [V.ref b] ++ bts.map V.ref))) (a := m4) (o := .lst [V.ref n, .ref r, .ref g, .ref m3])
              generalize upd (upd (upd (upd H42 m1 (.lst [V.ref b])) m2 (.lst (gs.map V.ref ++ [V.ref b]))) m3 (.lst (gs.map V.ref ++ [V.ref b] ++ bts.map V.ref))) m4 (.lst [V.ref n, .ref r, .ref g, .ref m3]) = H46 at f4 M3 M4 ⊢
              have SB : Sts H46 ((gs ++ [b]) ++ bts) ((ss ++ [bs]) ++ bss) := ((hGs.app hb).apps Sbb).same f4
              rw [eL] at M3
              have L7 := f4 _ _ L7
              rw [eL] at L7
              have lay := lay_hdd (sb := (ss ++ [bs]) ++ bss) hg gr hoks oksb
              refine ⟨.list (hdd cs rs ss ((ss ++ [bs]) ++ bss)), .list (hdd cs rs ss ((ss ++ [bs]) ++ bss)),
                .lst (xs := [V.ref l1, .ref D, .ref l3, .ref l7]) (SqL.of (f4 _ _ L8)) (.cons (.lst (xs := sv cs) (SqL.of (f4 _ _ L1)) (dp_pd cs)) (.cons (.lst (SqL.of (f4 _ _ LD)) (dp_pdr (hDl.same f4))) (.cons (.lst (SqL.of (f4 _ _ L3)) (dp_pds (hGs.same f4))) (.cons (.lst (SqL.of L7) (dp_pds SB)) .nil)))),
                .lst (xs := [V.ref n, .ref r, .ref g, .ref m3]) (SqL.of M4) (.cons (.lst (xs := sv cs) (SqL.of (f4 _ _ hn)) (dp_pd cs)) (.cons (.lst (SqL.of (f4 _ _ hr)) (dp_pdr (hR.same f4))) (.cons (.lst (SqL.of (f4 _ _ hG)) (dp_pds (hGs.same f4))) (.cons (.lst (SqL.of M3) (dp_pds SB)) .nil)))),
                shapedL lay depth_hdd, shapedL lay depth_hdd, ?_⟩
              rw [eqvL lay]
              exact kk _
end
end My
set_option maxRecDepth 100000
set_option maxHeartbeats 4000000
set_option exponentiation.threshold 10000
namespace My
open PySem L2
theorem all_mk {l : PySem.W.OpenLaw} {w : World} {K : PySem.W.Frag} {h : Heap} {mg : Str → Option Value} {fa C_Table C_RowsError C_Unknown C_Impossible C_BadStep a_BadStep_init a_is_name a_first_bad_name a_first_stray a_numbers_in a_names_in a_mask_of a_check_columns a_check_rows a_Table_in_order a_Table_init a_Table_getitem a_Table_len a_follow a_step_mask a_combined a_law_cell a_law_pool a_law_size a_law_names a_law_order a_law_row a_law_rows a_law_sorted a_law_is_number a_law_step a_law_drawn a_law_instead a_law_pair a_law_bad a_law_same a_law_refusal a_law e_Table_init : Addr} (X : K.In h) (G : h.Ns mainGlobals mg) (hfa : mg "law" = some (.ref fa))
    {cd_BadStep : ClassData}
    {oc_BadStep_init kV_BadStep_init dc_BadStep_init pm_BadStep_init ct_BadStep_init oa_BadStep_init ob_BadStep_init : Value} {od_BadStep_init an_BadStep_init da_BadStep_init db_BadStep_init : Option Addr} {sl_BadStep_init la_BadStep_init lb_BadStep_init : Array (Option Value)} {cda_BadStep_init cc_BadStep_init : Addr} {vs_BadStep_init : Array Value} {fl_BadStep_init : Str} {tf_BadStep_init : Tok}
    {tk_LONGEST_NAME : Tok}
    {tk_Table_MOST_COLUMNS : Tok}
    {tk_Table_MOST_ROWS : Tok}
    {oc_is_name kV_is_name dc_is_name pm_is_name cd_is_name ct_is_name : Value} {od_is_name an_is_name : Option Addr} {sl_is_name : Array (Option Value)}
    {oc_first_bad_name kV_first_bad_name dc_first_bad_name pm_first_bad_name cd_first_bad_name ct_first_bad_name : Value} {od_first_bad_name an_first_bad_name : Option Addr} {sl_first_bad_name : Array (Option Value)}
    {oc_first_stray kV_first_stray dc_first_stray pm_first_stray cd_first_stray ct_first_stray : Value} {od_first_stray an_first_stray : Option Addr} {sl_first_stray : Array (Option Value)}
    {oc_numbers_in kV_numbers_in dc_numbers_in pm_numbers_in cd_numbers_in ct_numbers_in : Value} {od_numbers_in an_numbers_in : Option Addr} {sl_numbers_in : Array (Option Value)}
    {oc_names_in kV_names_in dc_names_in pm_names_in cd_names_in ct_names_in : Value} {od_names_in an_names_in : Option Addr} {sl_names_in : Array (Option Value)}
    {oc_mask_of kV_mask_of dc_mask_of pm_mask_of cd_mask_of ct_mask_of : Value} {od_mask_of an_mask_of : Option Addr} {sl_mask_of : Array (Option Value)}
    {oc_check_columns kV_check_columns dc_check_columns pm_check_columns cd_check_columns ct_check_columns : Value} {od_check_columns an_check_columns : Option Addr} {sl_check_columns : Array (Option Value)}
    {oc_check_rows kV_check_rows dc_check_rows pm_check_rows cd_check_rows ct_check_rows : Value} {od_check_rows an_check_rows : Option Addr} {sl_check_rows : Array (Option Value)}
    {oc_Table_in_order kV_Table_in_order dc_Table_in_order pm_Table_in_order cd_Table_in_order ct_Table_in_order : Value} {od_Table_in_order an_Table_in_order : Option Addr} {sl_Table_in_order : Array (Option Value)}
    {oc_Table_init kV_Table_init dc_Table_init pm_Table_init cd_Table_init ct_Table_init : Value} {od_Table_init an_Table_init : Option Addr} {sl_Table_init : Array (Option Value)}
    {TD_Table_init : Addr} {to_Table_init : Option Addr} {tn_Table_init : Nat} {ts_Table_init : Array (Option Value)}
    {oc_Table_getitem kV_Table_getitem dc_Table_getitem pm_Table_getitem cd_Table_getitem ct_Table_getitem : Value} {od_Table_getitem an_Table_getitem : Option Addr} {sl_Table_getitem : Array (Option Value)}
    {oc_Table_len kV_Table_len dc_Table_len pm_Table_len cd_Table_len ct_Table_len : Value} {od_Table_len an_Table_len : Option Addr} {sl_Table_len : Array (Option Value)}
    {oc_follow kV_follow dc_follow pm_follow cd_follow ct_follow : Value} {od_follow an_follow : Option Addr} {sl_follow : Array (Option Value)}
    {oc_step_mask kV_step_mask dc_step_mask pm_step_mask cd_step_mask ct_step_mask : Value} {od_step_mask an_step_mask : Option Addr} {sl_step_mask : Array (Option Value)}
    {oc_combined kV_combined dc_combined pm_combined cd_combined ct_combined : Value} {od_combined an_combined : Option Addr} {sl_combined : Array (Option Value)}
    {oc_law_cell kV_law_cell dc_law_cell pm_law_cell cd_law_cell ct_law_cell : Value} {od_law_cell an_law_cell : Option Addr} {sl_law_cell : Array (Option Value)}
    {oc_law_pool kV_law_pool dc_law_pool pm_law_pool cd_law_pool ct_law_pool : Value} {od_law_pool an_law_pool : Option Addr} {sl_law_pool : Array (Option Value)}
    {oc_law_size kV_law_size dc_law_size pm_law_size cd_law_size ct_law_size : Value} {od_law_size an_law_size : Option Addr} {sl_law_size : Array (Option Value)}
    {oc_law_names kV_law_names dc_law_names pm_law_names cd_law_names ct_law_names : Value} {od_law_names an_law_names : Option Addr} {sl_law_names : Array (Option Value)}
    {oc_law_order kV_law_order dc_law_order pm_law_order cd_law_order ct_law_order : Value} {od_law_order an_law_order : Option Addr} {sl_law_order : Array (Option Value)}
    {oc_law_row kV_law_row dc_law_row pm_law_row cd_law_row ct_law_row : Value} {od_law_row an_law_row : Option Addr} {sl_law_row : Array (Option Value)}
    {oc_law_rows kV_law_rows dc_law_rows pm_law_rows cd_law_rows ct_law_rows : Value} {od_law_rows an_law_rows : Option Addr} {sl_law_rows : Array (Option Value)}
    {oc_law_sorted kV_law_sorted dc_law_sorted pm_law_sorted cd_law_sorted ct_law_sorted : Value} {od_law_sorted an_law_sorted : Option Addr} {sl_law_sorted : Array (Option Value)}
    {oc_law_is_number kV_law_is_number dc_law_is_number pm_law_is_number cd_law_is_number ct_law_is_number : Value} {od_law_is_number an_law_is_number : Option Addr} {sl_law_is_number : Array (Option Value)}
    {oc_law_step kV_law_step dc_law_step pm_law_step cd_law_step ct_law_step : Value} {od_law_step an_law_step : Option Addr} {sl_law_step : Array (Option Value)}
    {oc_law_drawn kV_law_drawn dc_law_drawn pm_law_drawn cd_law_drawn ct_law_drawn : Value} {od_law_drawn an_law_drawn : Option Addr} {sl_law_drawn : Array (Option Value)}
    {oc_law_instead kV_law_instead dc_law_instead pm_law_instead cd_law_instead ct_law_instead : Value} {od_law_instead an_law_instead : Option Addr} {sl_law_instead : Array (Option Value)}
    {oc_law_pair kV_law_pair dc_law_pair pm_law_pair cd_law_pair ct_law_pair : Value} {od_law_pair an_law_pair : Option Addr} {sl_law_pair : Array (Option Value)}
    {oc_law_bad kV_law_bad dc_law_bad pm_law_bad cd_law_bad ct_law_bad : Value} {od_law_bad an_law_bad : Option Addr} {sl_law_bad : Array (Option Value)}
    {oc_law_same kV_law_same dc_law_same pm_law_same cd_law_same ct_law_same : Value} {od_law_same an_law_same : Option Addr} {sl_law_same : Array (Option Value)}
    {oc_law_refusal kV_law_refusal dc_law_refusal pm_law_refusal cd_law_refusal ct_law_refusal : Value} {od_law_refusal an_law_refusal : Option Addr} {sl_law_refusal : Array (Option Value)}
    {oc_law kV_law dc_law pm_law cd_law ct_law : Value} {od_law an_law : Option Addr} {sl_law : Array (Option Value)}
    (xmg_Table : PySem.W.nsIn K mainGlobals "Table" = some (some (.ref C_Table)))
    (xmg_RowsError : PySem.W.nsIn K mainGlobals "RowsError" = some (some (.ref C_RowsError)))
    (xmg_Unknown : PySem.W.nsIn K mainGlobals "Unknown" = some (some (.ref C_Unknown)))
    (xmg_Impossible : PySem.W.nsIn K mainGlobals "Impossible" = some (some (.ref C_Impossible)))
    (xmg_BadStep : PySem.W.nsIn K mainGlobals "BadStep" = some (some (.ref C_BadStep)))
    (am_BadStep_init : PySem.W.findIn K (.ref C_BadStep) "__init__" = some (some (.ref a_BadStep_init)))
    (xmg_LONGEST_NAME : PySem.W.nsIn K mainGlobals "LONGEST_NAME" = some (some (.int 8 tk_LONGEST_NAME)))
    (xmg_is_name : PySem.W.nsIn K mainGlobals "is_name" = some (some (.ref a_is_name)))
    (xmg_first_bad_name : PySem.W.nsIn K mainGlobals "first_bad_name" = some (some (.ref a_first_bad_name)))
    (xmg_first_stray : PySem.W.nsIn K mainGlobals "first_stray" = some (some (.ref a_first_stray)))
    (xmg_numbers_in : PySem.W.nsIn K mainGlobals "numbers_in" = some (some (.ref a_numbers_in)))
    (xmg_names_in : PySem.W.nsIn K mainGlobals "names_in" = some (some (.ref a_names_in)))
    (xmg_mask_of : PySem.W.nsIn K mainGlobals "mask_of" = some (some (.ref a_mask_of)))
    (xmg_check_columns : PySem.W.nsIn K mainGlobals "check_columns" = some (some (.ref a_check_columns)))
    (xmg_check_rows : PySem.W.nsIn K mainGlobals "_check_rows" = some (some (.ref a_check_rows)))
    (am_Table_in_order : PySem.W.findIn K (.ref C_Table) "_in_order" = some (some (.ref a_Table_in_order)))
    (am_Table_init : PySem.W.findIn K (.ref C_Table) "__init__" = some (some (.ref a_Table_init)))
    (am_Table_getitem : PySem.W.findIn K (.ref C_Table) "__getitem__" = some (some (.ref a_Table_getitem)))
    (am_Table_len : PySem.W.findIn K (.ref C_Table) "__len__" = some (some (.ref a_Table_len)))
    (xmg_follow : PySem.W.nsIn K mainGlobals "follow" = some (some (.ref a_follow)))
    (xmg_step_mask : PySem.W.nsIn K mainGlobals "_step_mask" = some (some (.ref a_step_mask)))
    (xmg_combined : PySem.W.nsIn K mainGlobals "_combined" = some (some (.ref a_combined)))
    (xmg_law_cell : PySem.W.nsIn K mainGlobals "_law_cell" = some (some (.ref a_law_cell)))
    (xmg_law_pool : PySem.W.nsIn K mainGlobals "_law_pool" = some (some (.ref a_law_pool)))
    (xmg_law_size : PySem.W.nsIn K mainGlobals "_law_size" = some (some (.ref a_law_size)))
    (xmg_law_names : PySem.W.nsIn K mainGlobals "_law_names" = some (some (.ref a_law_names)))
    (xmg_law_order : PySem.W.nsIn K mainGlobals "_law_order" = some (some (.ref a_law_order)))
    (xmg_law_row : PySem.W.nsIn K mainGlobals "_law_row" = some (some (.ref a_law_row)))
    (xmg_law_rows : PySem.W.nsIn K mainGlobals "_law_rows" = some (some (.ref a_law_rows)))
    (xmg_law_sorted : PySem.W.nsIn K mainGlobals "_law_sorted" = some (some (.ref a_law_sorted)))
    (xmg_law_is_number : PySem.W.nsIn K mainGlobals "_law_is_number" = some (some (.ref a_law_is_number)))
    (xmg_law_step : PySem.W.nsIn K mainGlobals "_law_step" = some (some (.ref a_law_step)))
    (xmg_law_drawn : PySem.W.nsIn K mainGlobals "_law_drawn" = some (some (.ref a_law_drawn)))
    (xmg_law_instead : PySem.W.nsIn K mainGlobals "_law_instead" = some (some (.ref a_law_instead)))
    (xmg_law_pair : PySem.W.nsIn K mainGlobals "_law_pair" = some (some (.ref a_law_pair)))
    (xmg_law_bad : PySem.W.nsIn K mainGlobals "_law_bad" = some (some (.ref a_law_bad)))
    (xmg_law_same : PySem.W.nsIn K mainGlobals "_law_same" = some (some (.ref a_law_same)))
    (xmg_law_refusal : PySem.W.nsIn K mainGlobals "_law_refusal" = some (some (.ref a_law_refusal)))
    (xmg_law : PySem.W.nsIn K mainGlobals "law" = some (some (.ref a_law)))
    (if_Table_in_order : PySem.W.isFn K (.ref a_Table_in_order) = true)
    (if_Table_init : PySem.W.isFn K (.ref a_Table_init) = true)
    (if_Table_getitem : PySem.W.isFn K (.ref a_Table_getitem) = true)
    (if_Table_len : PySem.W.isFn K (.ref a_Table_len) = true)
    (l_BadStep_init : K.lookup a_BadStep_init = some ⟨oc_BadStep_init, od_BadStep_init, .func (PySem.W.ksFn "__init__" "BadStep.__init__" (defArgs s_BadStep_init) (defBody s_BadStep_init) (defScope s_BadStep_init) .none kV_BadStep_init dc_BadStep_init pm_BadStep_init an_BadStep_init (.ref cda_BadStep_init) ct_BadStep_init cc_BadStep_init), sl_BadStep_init⟩)
    (l_is_name : K.lookup a_is_name = some ⟨oc_is_name, od_is_name, .func (PySem.W.fnOf "is_name" "is_name" (defArgs s_is_name) (defBody s_is_name) (defScope s_is_name) .none kV_is_name dc_is_name pm_is_name an_is_name cd_is_name ct_is_name), sl_is_name⟩)
    (l_first_bad_name : K.lookup a_first_bad_name = some ⟨oc_first_bad_name, od_first_bad_name, .func (PySem.W.fnOf "first_bad_name" "first_bad_name" (defArgs s_first_bad_name) (defBody s_first_bad_name) (defScope s_first_bad_name) .none kV_first_bad_name dc_first_bad_name pm_first_bad_name an_first_bad_name cd_first_bad_name ct_first_bad_name), sl_first_bad_name⟩)
    (l_first_stray : K.lookup a_first_stray = some ⟨oc_first_stray, od_first_stray, .func (PySem.W.fnOf "first_stray" "first_stray" (defArgs s_first_stray) (defBody s_first_stray) (defScope s_first_stray) .none kV_first_stray dc_first_stray pm_first_stray an_first_stray cd_first_stray ct_first_stray), sl_first_stray⟩)
    (l_numbers_in : K.lookup a_numbers_in = some ⟨oc_numbers_in, od_numbers_in, .func (PySem.W.fnOf "numbers_in" "numbers_in" (defArgs s_numbers_in) (defBody s_numbers_in) (defScope s_numbers_in) .none kV_numbers_in dc_numbers_in pm_numbers_in an_numbers_in cd_numbers_in ct_numbers_in), sl_numbers_in⟩)
    (l_names_in : K.lookup a_names_in = some ⟨oc_names_in, od_names_in, .func (PySem.W.fnOf "names_in" "names_in" (defArgs s_names_in) (defBody s_names_in) (defScope s_names_in) .none kV_names_in dc_names_in pm_names_in an_names_in cd_names_in ct_names_in), sl_names_in⟩)
    (l_mask_of : K.lookup a_mask_of = some ⟨oc_mask_of, od_mask_of, .func (PySem.W.fnOf "mask_of" "mask_of" (defArgs s_mask_of) (defBody s_mask_of) (defScope s_mask_of) .none kV_mask_of dc_mask_of pm_mask_of an_mask_of cd_mask_of ct_mask_of), sl_mask_of⟩)
    (l_check_columns : K.lookup a_check_columns = some ⟨oc_check_columns, od_check_columns, .func (PySem.W.fnOf "check_columns" "check_columns" (defArgs s_check_columns) (defBody s_check_columns) (defScope s_check_columns) .none kV_check_columns dc_check_columns pm_check_columns an_check_columns cd_check_columns ct_check_columns), sl_check_columns⟩)
    (l_check_rows : K.lookup a_check_rows = some ⟨oc_check_rows, od_check_rows, .func (PySem.W.fnOf "_check_rows" "_check_rows" (defArgs s_check_rows) (defBody s_check_rows) (defScope s_check_rows) .none kV_check_rows dc_check_rows pm_check_rows an_check_rows cd_check_rows ct_check_rows), sl_check_rows⟩)
    (l_Table_in_order : K.lookup a_Table_in_order = some ⟨oc_Table_in_order, od_Table_in_order, .func (PySem.W.fnOf "_in_order" "Table._in_order" (defArgs s_Table_in_order) (defBody s_Table_in_order) (defScope s_Table_in_order) .none kV_Table_in_order dc_Table_in_order pm_Table_in_order an_Table_in_order cd_Table_in_order ct_Table_in_order), sl_Table_in_order⟩)
    (l_Table_init : K.lookup a_Table_init = some ⟨oc_Table_init, od_Table_init, .func (PySem.W.fnOf "__init__" "Table.__init__" (defArgs s_Table_init) (defBody s_Table_init) (defScope s_Table_init) (.ref TD_Table_init) kV_Table_init dc_Table_init pm_Table_init an_Table_init cd_Table_init ct_Table_init), sl_Table_init⟩)
    (l_Table_getitem : K.lookup a_Table_getitem = some ⟨oc_Table_getitem, od_Table_getitem, .func (PySem.W.fnOf "__getitem__" "Table.__getitem__" (defArgs s_Table_getitem) (defBody s_Table_getitem) (defScope s_Table_getitem) .none kV_Table_getitem dc_Table_getitem pm_Table_getitem an_Table_getitem cd_Table_getitem ct_Table_getitem), sl_Table_getitem⟩)
    (l_Table_len : K.lookup a_Table_len = some ⟨oc_Table_len, od_Table_len, .func (PySem.W.fnOf "__len__" "Table.__len__" (defArgs s_Table_len) (defBody s_Table_len) (defScope s_Table_len) .none kV_Table_len dc_Table_len pm_Table_len an_Table_len cd_Table_len ct_Table_len), sl_Table_len⟩)
    (l_follow : K.lookup a_follow = some ⟨oc_follow, od_follow, .func (PySem.W.fnOf "follow" "follow" (defArgs s_follow) (defBody s_follow) (defScope s_follow) .none kV_follow dc_follow pm_follow an_follow cd_follow ct_follow), sl_follow⟩)
    (l_step_mask : K.lookup a_step_mask = some ⟨oc_step_mask, od_step_mask, .func (PySem.W.fnOf "_step_mask" "_step_mask" (defArgs s_step_mask) (defBody s_step_mask) (defScope s_step_mask) .none kV_step_mask dc_step_mask pm_step_mask an_step_mask cd_step_mask ct_step_mask), sl_step_mask⟩)
    (l_combined : K.lookup a_combined = some ⟨oc_combined, od_combined, .func (PySem.W.fnOf "_combined" "_combined" (defArgs s_combined) (defBody s_combined) (defScope s_combined) .none kV_combined dc_combined pm_combined an_combined cd_combined ct_combined), sl_combined⟩)
    (l_law_cell : K.lookup a_law_cell = some ⟨oc_law_cell, od_law_cell, .func (PySem.W.fnOf "_law_cell" "_law_cell" (defArgs s_law_cell) (defBody s_law_cell) (defScope s_law_cell) .none kV_law_cell dc_law_cell pm_law_cell an_law_cell cd_law_cell ct_law_cell), sl_law_cell⟩)
    (l_law_pool : K.lookup a_law_pool = some ⟨oc_law_pool, od_law_pool, .func (PySem.W.fnOf "_law_pool" "_law_pool" (defArgs s_law_pool) (defBody s_law_pool) (defScope s_law_pool) .none kV_law_pool dc_law_pool pm_law_pool an_law_pool cd_law_pool ct_law_pool), sl_law_pool⟩)
    (l_law_size : K.lookup a_law_size = some ⟨oc_law_size, od_law_size, .func (PySem.W.fnOf "_law_size" "_law_size" (defArgs s_law_size) (defBody s_law_size) (defScope s_law_size) .none kV_law_size dc_law_size pm_law_size an_law_size cd_law_size ct_law_size), sl_law_size⟩)
    (l_law_names : K.lookup a_law_names = some ⟨oc_law_names, od_law_names, .func (PySem.W.fnOf "_law_names" "_law_names" (defArgs s_law_names) (defBody s_law_names) (defScope s_law_names) .none kV_law_names dc_law_names pm_law_names an_law_names cd_law_names ct_law_names), sl_law_names⟩)
    (l_law_order : K.lookup a_law_order = some ⟨oc_law_order, od_law_order, .func (PySem.W.fnOf "_law_order" "_law_order" (defArgs s_law_order) (defBody s_law_order) (defScope s_law_order) .none kV_law_order dc_law_order pm_law_order an_law_order cd_law_order ct_law_order), sl_law_order⟩)
    (l_law_row : K.lookup a_law_row = some ⟨oc_law_row, od_law_row, .func (PySem.W.fnOf "_law_row" "_law_row" (defArgs s_law_row) (defBody s_law_row) (defScope s_law_row) .none kV_law_row dc_law_row pm_law_row an_law_row cd_law_row ct_law_row), sl_law_row⟩)
    (l_law_rows : K.lookup a_law_rows = some ⟨oc_law_rows, od_law_rows, .func (PySem.W.fnOf "_law_rows" "_law_rows" (defArgs s_law_rows) (defBody s_law_rows) (defScope s_law_rows) .none kV_law_rows dc_law_rows pm_law_rows an_law_rows cd_law_rows ct_law_rows), sl_law_rows⟩)
    (l_law_sorted : K.lookup a_law_sorted = some ⟨oc_law_sorted, od_law_sorted, .func (PySem.W.fnOf "_law_sorted" "_law_sorted" (defArgs s_law_sorted) (defBody s_law_sorted) (defScope s_law_sorted) .none kV_law_sorted dc_law_sorted pm_law_sorted an_law_sorted cd_law_sorted ct_law_sorted), sl_law_sorted⟩)
    (l_law_is_number : K.lookup a_law_is_number = some ⟨oc_law_is_number, od_law_is_number, .func (PySem.W.fnOf "_law_is_number" "_law_is_number" (defArgs s_law_is_number) (defBody s_law_is_number) (defScope s_law_is_number) .none kV_law_is_number dc_law_is_number pm_law_is_number an_law_is_number cd_law_is_number ct_law_is_number), sl_law_is_number⟩)
    (l_law_step : K.lookup a_law_step = some ⟨oc_law_step, od_law_step, .func (PySem.W.fnOf "_law_step" "_law_step" (defArgs s_law_step) (defBody s_law_step) (defScope s_law_step) .none kV_law_step dc_law_step pm_law_step an_law_step cd_law_step ct_law_step), sl_law_step⟩)
    (l_law_drawn : K.lookup a_law_drawn = some ⟨oc_law_drawn, od_law_drawn, .func (PySem.W.fnOf "_law_drawn" "_law_drawn" (defArgs s_law_drawn) (defBody s_law_drawn) (defScope s_law_drawn) .none kV_law_drawn dc_law_drawn pm_law_drawn an_law_drawn cd_law_drawn ct_law_drawn), sl_law_drawn⟩)
    (l_law_instead : K.lookup a_law_instead = some ⟨oc_law_instead, od_law_instead, .func (PySem.W.fnOf "_law_instead" "_law_instead" (defArgs s_law_instead) (defBody s_law_instead) (defScope s_law_instead) .none kV_law_instead dc_law_instead pm_law_instead an_law_instead cd_law_instead ct_law_instead), sl_law_instead⟩)
    (l_law_pair : K.lookup a_law_pair = some ⟨oc_law_pair, od_law_pair, .func (PySem.W.fnOf "_law_pair" "_law_pair" (defArgs s_law_pair) (defBody s_law_pair) (defScope s_law_pair) .none kV_law_pair dc_law_pair pm_law_pair an_law_pair cd_law_pair ct_law_pair), sl_law_pair⟩)
    (l_law_bad : K.lookup a_law_bad = some ⟨oc_law_bad, od_law_bad, .func (PySem.W.fnOf "_law_bad" "_law_bad" (defArgs s_law_bad) (defBody s_law_bad) (defScope s_law_bad) .none kV_law_bad dc_law_bad pm_law_bad an_law_bad cd_law_bad ct_law_bad), sl_law_bad⟩)
    (l_law_same : K.lookup a_law_same = some ⟨oc_law_same, od_law_same, .func (PySem.W.fnOf "_law_same" "_law_same" (defArgs s_law_same) (defBody s_law_same) (defScope s_law_same) .none kV_law_same dc_law_same pm_law_same an_law_same cd_law_same ct_law_same), sl_law_same⟩)
    (l_law_refusal : K.lookup a_law_refusal = some ⟨oc_law_refusal, od_law_refusal, .func (PySem.W.fnOf "_law_refusal" "_law_refusal" (defArgs s_law_refusal) (defBody s_law_refusal) (defScope s_law_refusal) .none kV_law_refusal dc_law_refusal pm_law_refusal an_law_refusal cd_law_refusal ct_law_refusal), sl_law_refusal⟩)
    (l_law : K.lookup a_law = some ⟨oc_law, od_law, .func (PySem.W.fnOf "law" "law" (defArgs s_law) (defBody s_law) (defScope s_law) .none kV_law dc_law pm_law an_law cd_law ct_law), sl_law⟩)
    (lx_BadStep_init : K.lookup cda_BadStep_init = some ⟨oa_BadStep_init, da_BadStep_init, .fields vs_BadStep_init, la_BadStep_init⟩)
    (lq_BadStep_init : K.lookup cc_BadStep_init = some ⟨ob_BadStep_init, db_BadStep_init, .cell (some (.ref C_BadStep)), lb_BadStep_init⟩)
    (c_BadStep_init : PySem.W.codeIn K (.ref cda_BadStep_init) "BadStep.__init__" = true)
    (c_is_name : PySem.W.codeIn K cd_is_name "is_name" = true)
    (k_is_name : PySem.W.keepIn K (.ref a_is_name) = true)
    (c_first_bad_name : PySem.W.codeIn K cd_first_bad_name "first_bad_name" = true)
    (k_first_bad_name : PySem.W.keepIn K (.ref a_first_bad_name) = true)
    (c_first_stray : PySem.W.codeIn K cd_first_stray "first_stray" = true)
    (k_first_stray : PySem.W.keepIn K (.ref a_first_stray) = true)
    (c_numbers_in : PySem.W.codeIn K cd_numbers_in "numbers_in" = true)
    (k_numbers_in : PySem.W.keepIn K (.ref a_numbers_in) = true)
    (c_names_in : PySem.W.codeIn K cd_names_in "names_in" = true)
    (k_names_in : PySem.W.keepIn K (.ref a_names_in) = true)
    (c_mask_of : PySem.W.codeIn K cd_mask_of "mask_of" = true)
    (k_mask_of : PySem.W.keepIn K (.ref a_mask_of) = true)
    (c_check_columns : PySem.W.codeIn K cd_check_columns "check_columns" = true)
    (k_check_columns : PySem.W.keepIn K (.ref a_check_columns) = true)
    (c_check_rows : PySem.W.codeIn K cd_check_rows "_check_rows" = true)
    (k_check_rows : PySem.W.keepIn K (.ref a_check_rows) = true)
    (c_Table_in_order : PySem.W.codeIn K cd_Table_in_order "Table._in_order" = true)
    (k_Table_in_order : PySem.W.keepIn K (.ref a_Table_in_order) = true)
    (c_Table_init : PySem.W.codeIn K cd_Table_init "Table.__init__" = true)
    (k_Table_init : PySem.W.keepIn K (.ref a_Table_init) = true)
    (lt_Table_init : K.lookup TD_Table_init = some ⟨.type "tuple", to_Table_init, .seq #[.ref e_Table_init] tn_Table_init, ts_Table_init⟩)
    (c_Table_getitem : PySem.W.codeIn K cd_Table_getitem "Table.__getitem__" = true)
    (k_Table_getitem : PySem.W.keepIn K (.ref a_Table_getitem) = true)
    (c_Table_len : PySem.W.codeIn K cd_Table_len "Table.__len__" = true)
    (k_Table_len : PySem.W.keepIn K (.ref a_Table_len) = true)
    (c_follow : PySem.W.codeIn K cd_follow "follow" = true)
    (k_follow : PySem.W.keepIn K (.ref a_follow) = true)
    (c_step_mask : PySem.W.codeIn K cd_step_mask "_step_mask" = true)
    (k_step_mask : PySem.W.keepIn K (.ref a_step_mask) = true)
    (c_combined : PySem.W.codeIn K cd_combined "_combined" = true)
    (k_combined : PySem.W.keepIn K (.ref a_combined) = true)
    (c_law_cell : PySem.W.codeIn K cd_law_cell "_law_cell" = true)
    (k_law_cell : PySem.W.keepIn K (.ref a_law_cell) = true)
    (c_law_pool : PySem.W.codeIn K cd_law_pool "_law_pool" = true)
    (k_law_pool : PySem.W.keepIn K (.ref a_law_pool) = true)
    (c_law_size : PySem.W.codeIn K cd_law_size "_law_size" = true)
    (k_law_size : PySem.W.keepIn K (.ref a_law_size) = true)
    (c_law_names : PySem.W.codeIn K cd_law_names "_law_names" = true)
    (k_law_names : PySem.W.keepIn K (.ref a_law_names) = true)
    (c_law_order : PySem.W.codeIn K cd_law_order "_law_order" = true)
    (k_law_order : PySem.W.keepIn K (.ref a_law_order) = true)
    (c_law_row : PySem.W.codeIn K cd_law_row "_law_row" = true)
    (k_law_row : PySem.W.keepIn K (.ref a_law_row) = true)
    (c_law_rows : PySem.W.codeIn K cd_law_rows "_law_rows" = true)
    (k_law_rows : PySem.W.keepIn K (.ref a_law_rows) = true)
    (c_law_sorted : PySem.W.codeIn K cd_law_sorted "_law_sorted" = true)
    (k_law_sorted : PySem.W.keepIn K (.ref a_law_sorted) = true)
    (c_law_is_number : PySem.W.codeIn K cd_law_is_number "_law_is_number" = true)
    (k_law_is_number : PySem.W.keepIn K (.ref a_law_is_number) = true)
    (c_law_step : PySem.W.codeIn K cd_law_step "_law_step" = true)
    (k_law_step : PySem.W.keepIn K (.ref a_law_step) = true)
    (c_law_drawn : PySem.W.codeIn K cd_law_drawn "_law_drawn" = true)
    (k_law_drawn : PySem.W.keepIn K (.ref a_law_drawn) = true)
    (c_law_instead : PySem.W.codeIn K cd_law_instead "_law_instead" = true)
    (k_law_instead : PySem.W.keepIn K (.ref a_law_instead) = true)
    (c_law_pair : PySem.W.codeIn K cd_law_pair "_law_pair" = true)
    (k_law_pair : PySem.W.keepIn K (.ref a_law_pair) = true)
    (c_law_bad : PySem.W.codeIn K cd_law_bad "_law_bad" = true)
    (k_law_bad : PySem.W.keepIn K (.ref a_law_bad) = true)
    (c_law_same : PySem.W.codeIn K cd_law_same "_law_same" = true)
    (k_law_same : PySem.W.keepIn K (.ref a_law_same) = true)
    (c_law_refusal : PySem.W.codeIn K cd_law_refusal "_law_refusal" = true)
    (k_law_refusal : PySem.W.keepIn K (.ref a_law_refusal) = true)
    (c_law : PySem.W.codeIn K cd_law "law" = true)
    (k_law : PySem.W.keepIn K (.ref a_law) = true)
    (pgcl_Table : PySem.W.plainGet K C_Table Str.empty = true)
    (hdcl_Table : PySem.W.hasDictIn K C_Table = true)
    (pocl_Table : PySem.W.plainOver K C_Table = true)
    (sacl_Table : PySem.W.findIn K (.ref C_Table) "__setattr__" = some (some (.builtin "object.__setattr__")))
    (xsf_Table : PySem.W.selfFirst K C_Table = true)
    (kmk_Table : PySem.W.makesIn K C_Table = true)
    (kkmk_Table : PySem.W.keepIn K (.ref C_Table) = true)
    (xc1_Table : PySem.W.findIn K (.ref C_Table) "__class__" = some (some (.builtin "object.__class__")))
    (xc3_Table : PySem.W.mroIn K C_Table (.type "object") = some true)
    (xn_Table_columns : PySem.W.findIn K (.ref C_Table) "columns" = some none)
    (xn_Table_rows : PySem.W.findIn K (.ref C_Table) "rows" = some none)
    (xc2 : PySem.W.specialIn K (.builtin "object.__class__") "__get__" = some (some (.builtin "getset_descriptor.__get__")))
    (xc4 : PySem.W.takesIn K (.builtin "object.__class__") = some true)
    (xtp_RowsError : PySem.W.typeIn K (.ref C_RowsError) = some (.type "type"))
    (xic_RowsError : PySem.W.isClsIn K C_RowsError = true)
    (xtp_Unknown : PySem.W.typeIn K (.ref C_Unknown) = some (.type "type"))
    (xic_Unknown : PySem.W.isClsIn K C_Unknown = true)
    (xtp_Impossible : PySem.W.typeIn K (.ref C_Impossible) = some (.type "type"))
    (xic_Impossible : PySem.W.isClsIn K C_Impossible = true)
    (xtp_BadStep : PySem.W.typeIn K (.ref C_BadStep) = some (.type "type"))
    (xic_BadStep : PySem.W.isClsIn K C_BadStep = true)
    (g1SC_BadStep : PySem.W.clsIn K C_BadStep = some cd_BadStep)
    (g2SC_BadStep : PySem.W.mroIn K C_BadStep (.ref C_BadStep) = some true)
    (ksSC_BadStep : PySem.W.ks_superIn K C_BadStep C_BadStep "__init__" = some (some (.builtin "ValueError.__init__")))
    (g4SC_BadStep : PySem.W.nsIn K PySem.cStatics "thirdparty.any" = some none)
    (g5SC_BadStep : PySem.W.nsIn K mainGlobals "super" = some none)
    (rfSC_BadStep : (l.prog.main.scope.names.lookup ("super" : Str)).isSome = false)
    (kxSC_BadStep : PySem.W.excInitIn K C_BadStep [.type "ValueError", .type "Exception", .type "BaseException", .type "object"] "ValueError.__new__" = true)
    (g6SC_BadStep : PySem.W.findIn K (.ref C_BadStep) "__setattr__" = some (some (.builtin "object.__setattr__")))
    (rv_BadStep_init : vs_BadStep_init[2]? = some (.str fl_BadStep_init tf_BadStep_init))
    (rg_BadStep_init : ((l.prog.main.file : Str) == fl_BadStep_init) = true)
    (xti_BadStep : PySem.W.typeIn K (.ref a_BadStep_init) = some (.type "function"))
    (xxn_BadStep_index : PySem.W.findIn K (.ref C_BadStep) "index" = some none)
    (xk_BadStep : PySem.W.keepIn K (.ref C_BadStep) = true)
    (xbp_BadStep : PySem.W.subIn K (.ref C_BadStep) (.type "BaseException") = some true)
    (xsv_BadStep : PySem.W.subIn K (.ref C_BadStep) (.type "ValueError") = some true)
    (xss_BadStep : PySem.W.subIn K (.ref C_BadStep) (.ref C_BadStep) = some true)
    (xsu_BadStep_RowsError : PySem.W.subIn K (.ref C_BadStep) (.ref C_RowsError) = some true)
    (xsu_BadStep_Unknown : PySem.W.subIn K (.ref C_BadStep) (.ref C_Unknown) = some false)
    (xsu_BadStep_Impossible : PySem.W.subIn K (.ref C_BadStep) (.ref C_Impossible) = some false)
    (xe1_BadStep : PySem.W.findIn K (.ref C_BadStep) "__getattribute__" = some (some (.builtin "BaseException.__getattribute__")))
    (xe2_BadStep : PySem.W.findIn K (.ref C_BadStep) "__getattr__" = some none)
    (xe3_BadStep : PySem.W.hasDictIn K C_BadStep = true)
    (xe4_BadStep : PySem.W.findIn K (.ref C_BadStep) "__class__" = some (some (.builtin "object.__class__")))
    (xe5_BadStep : PySem.W.mroIn K C_BadStep (.type "object") = some true)
    (r1cr_Table : PySem.W.readsIn K C_Table (.type "type") = true)
    (r2cr_Table : PySem.W.specialIn K (.ref C_Table) "__getattribute__" = some (some (.builtin "type.__getattribute__")))
    (xcv_Table_MOST_COLUMNS : PySem.W.findCls K (.ref C_Table) (.type "type") "MOST_COLUMNS" = some (.val (.int 12 tk_Table_MOST_COLUMNS)))
    (xcv_Table_MOST_ROWS : PySem.W.findCls K (.ref C_Table) (.type "type") "MOST_ROWS" = some (.val (.int 48 tk_Table_MOST_ROWS)))
    (xn_abs : PySem.W.nsIn K mainGlobals "abs" = some none)
    (xn_int : PySem.W.nsIn K mainGlobals "int" = some none)
    (xn_isinstance : PySem.W.nsIn K mainGlobals "isinstance" = some none)
    (xn_range : PySem.W.nsIn K mainGlobals "range" = some none)
    (xn_len : PySem.W.nsIn K mainGlobals "len" = some none)
    (xn_str : PySem.W.nsIn K mainGlobals "str" = some none)
    (xn_tuple : PySem.W.nsIn K mainGlobals "tuple" = some none)
    (xn_list : PySem.W.nsIn K mainGlobals "list" = some none)
    (xn_ValueError : PySem.W.nsIn K mainGlobals "ValueError" = some none)
    (xn_all : PySem.W.nsIn K mainGlobals "all" = some none)
    (xn_max : PySem.W.nsIn K mainGlobals "max" = some none)
    (xn_min : PySem.W.nsIn K mainGlobals "min" = some none)
    (xn_enumerate : PySem.W.nsIn K mainGlobals "enumerate" = some none)
    (xn_bool : PySem.W.nsIn K mainGlobals "bool" = some none)
    (xn_sum : PySem.W.nsIn K mainGlobals "sum" = some none)
    : ∃ fd : FuncData, (∀ (s : Shared) (v : Value), BindsTo s fd ⟨[v], []⟩ [("script", v)]) ∧ ∀ base : Heap, K.In base → base.Ns mainGlobals mg → FnOk l.prog w K mg base CX0 15 fa fd ["script"] (spLaw K) := by
  have e := hfa.symm.trans (PySem.W.mg_of X G xmg_law)
  cases e
  have T : Txt l.prog K mg ⟨C_Table, C_RowsError, C_Unknown, C_Impossible, C_BadStep, a_BadStep_init, _, a_is_name, _, a_first_bad_name, _, a_first_stray, _, a_numbers_in, _, a_names_in, _, a_mask_of, _, a_check_columns, _, a_check_rows, _, a_Table_in_order, _, a_Table_init, _, a_Table_getitem, _, a_Table_len, _, a_follow, _, a_step_mask, _, a_combined, _, a_law_cell, _, a_law_pool, _, a_law_size, _, a_law_names, _, a_law_order, _, a_law_row, _, a_law_rows, _, a_law_sorted, _, a_law_is_number, _, a_law_step, _, a_law_drawn, _, a_law_instead, _, a_law_pair, _, a_law_bad, _, a_law_same, _, a_law_refusal, _, fa, _, e_Table_init⟩ := {
    mg_Table := PySem.W.mg_of X G xmg_Table
    cl_Table := ⟨pgcl_Table, hdcl_Table, pocl_Table, sacl_Table⟩
    sf_Table := xsf_Table
    mk_Table := ⟨kmk_Table, am_Table_init, if_Table_init, kkmk_Table⟩
    c1_Table := xc1_Table
    c3_Table := xc3_Table
    n_Table_columns := xn_Table_columns
    n_Table_rows := xn_Table_rows
    c2 := xc2
    c4 := xc4
    mg_RowsError := PySem.W.mg_of X G xmg_RowsError
    tp_RowsError := xtp_RowsError
    ic_RowsError := xic_RowsError
    mg_Unknown := PySem.W.mg_of X G xmg_Unknown
    tp_Unknown := xtp_Unknown
    ic_Unknown := xic_Unknown
    mg_Impossible := PySem.W.mg_of X G xmg_Impossible
    tp_Impossible := xtp_Impossible
    ic_Impossible := xic_Impossible
    mg_BadStep := PySem.W.mg_of X G xmg_BadStep
    tp_BadStep := xtp_BadStep
    ic_BadStep := xic_BadStep
    SC_BadStep := ⟨⟨_, g1SC_BadStep⟩, g2SC_BadStep, ksSC_BadStep, g4SC_BadStep, xsv_BadStep, PySem.W.mg_none_of X G g5SC_BadStep, rfSC_BadStep, oex_of kxSC_BadStep xe3_BadStep g6SC_BadStep xbp_BadStep xtp_BadStep xk_BadStep⟩
    SF_BadStep := ⟨⟨_, _, _, _, _, _, _, _, _, _, rfl, l_BadStep_init, c_BadStep_init, ⟨_, _, _, _, _, _, lx_BadStep_init, rv_BadStep_init, rg_BadStep_init⟩, _, _, _, lq_BadStep_init⟩⟩
    ii_BadStep := am_BadStep_init
    ti_BadStep := xti_BadStep
    b_BadStep_init := fun s us _ hl => by rw [List.append_nil] at hl ⊢; exact .of_eq (match us, hl with | [_, _], _ => rfl)
    xn_BadStep_index := xxn_BadStep_index
    xf_BadStep := ⟨xe1_BadStep, xe2_BadStep, xbp_BadStep, xe3_BadStep⟩
    ec_BadStep := ⟨xe1_BadStep, xe2_BadStep, xbp_BadStep, xe3_BadStep, xe4_BadStep, xc2, xc4, xe5_BadStep⟩
    k_BadStep := xk_BadStep
    bp_BadStep := xbp_BadStep
    sv_BadStep := xsv_BadStep
    ss_BadStep := xss_BadStep
    su_BadStep_RowsError := xsu_BadStep_RowsError
    su_BadStep_Unknown := xsu_BadStep_Unknown
    su_BadStep_Impossible := xsu_BadStep_Impossible
    e1_BadStep := xe1_BadStep
    e2_BadStep := xe2_BadStep
    e3_BadStep := xe3_BadStep
    e4_BadStep := xe4_BadStep
    e5_BadStep := xe5_BadStep
    mg_LONGEST_NAME := ⟨_, PySem.W.mg_of X G xmg_LONGEST_NAME⟩
    cr_Table := ⟨r1cr_Table, r2cr_Table⟩
    cv_Table_MOST_COLUMNS := ⟨_, ⟨xcv_Table_MOST_COLUMNS, ⟨_, rfl⟩⟩⟩
    cv_Table_MOST_ROWS := ⟨_, ⟨xcv_Table_MOST_ROWS, ⟨_, rfl⟩⟩⟩
    n_abs := PySem.W.mg_none_of X G xn_abs
    n_int := PySem.W.mg_none_of X G xn_int
    n_isinstance := PySem.W.mg_none_of X G xn_isinstance
    n_range := PySem.W.mg_none_of X G xn_range
    n_len := PySem.W.mg_none_of X G xn_len
    n_str := PySem.W.mg_none_of X G xn_str
    n_tuple := PySem.W.mg_none_of X G xn_tuple
    n_list := PySem.W.mg_none_of X G xn_list
    n_ValueError := PySem.W.mg_none_of X G xn_ValueError
    n_all := PySem.W.mg_none_of X G xn_all
    n_max := PySem.W.mg_none_of X G xn_max
    n_min := PySem.W.mg_none_of X G xn_min
    n_enumerate := PySem.W.mg_none_of X G xn_enumerate
    n_bool := PySem.W.mg_none_of X G xn_bool
    n_sum := PySem.W.mg_none_of X G xn_sum
    F_is_name := fun_mk (st := s_is_name) l_is_name c_is_name k_is_name
    b_is_name := (fun_mk (st := s_is_name) l_is_name c_is_name k_is_name).binds fun _ _ _ _ _ _ us hl => match us, hl with | [_], _ => rfl
    mg_is_name := PySem.W.mg_of X G xmg_is_name
    F_first_bad_name := fun_mk (st := s_first_bad_name) l_first_bad_name c_first_bad_name k_first_bad_name
    b_first_bad_name := (fun_mk (st := s_first_bad_name) l_first_bad_name c_first_bad_name k_first_bad_name).binds fun _ _ _ _ _ _ us hl => match us, hl with | [_], _ => rfl
    mg_first_bad_name := PySem.W.mg_of X G xmg_first_bad_name
    F_first_stray := fun_mk (st := s_first_stray) l_first_stray c_first_stray k_first_stray
    b_first_stray := (fun_mk (st := s_first_stray) l_first_stray c_first_stray k_first_stray).binds fun _ _ _ _ _ _ us hl => match us, hl with | [_, _], _ => rfl
    mg_first_stray := PySem.W.mg_of X G xmg_first_stray
    F_numbers_in := fun_mk (st := s_numbers_in) l_numbers_in c_numbers_in k_numbers_in
    b_numbers_in := (fun_mk (st := s_numbers_in) l_numbers_in c_numbers_in k_numbers_in).binds fun _ _ _ _ _ _ us hl => match us, hl with | [_], _ => rfl
    mg_numbers_in := PySem.W.mg_of X G xmg_numbers_in
    F_names_in := fun_mk (st := s_names_in) l_names_in c_names_in k_names_in
    b_names_in := (fun_mk (st := s_names_in) l_names_in c_names_in k_names_in).binds fun _ _ _ _ _ _ us hl => match us, hl with | [_, _], _ => rfl
    mg_names_in := PySem.W.mg_of X G xmg_names_in
    F_mask_of := fun_mk (st := s_mask_of) l_mask_of c_mask_of k_mask_of
    b_mask_of := (fun_mk (st := s_mask_of) l_mask_of c_mask_of k_mask_of).binds fun _ _ _ _ _ _ us hl => match us, hl with | [_, _], _ => rfl
    mg_mask_of := PySem.W.mg_of X G xmg_mask_of
    F_check_columns := fun_mk (st := s_check_columns) l_check_columns c_check_columns k_check_columns
    b_check_columns := (fun_mk (st := s_check_columns) l_check_columns c_check_columns k_check_columns).binds fun _ _ _ _ _ _ us hl => match us, hl with | [_], _ => rfl
    mg_check_columns := PySem.W.mg_of X G xmg_check_columns
    F_check_rows := fun_mk (st := s_check_rows) l_check_rows c_check_rows k_check_rows
    b_check_rows := (fun_mk (st := s_check_rows) l_check_rows c_check_rows k_check_rows).binds fun _ _ _ _ _ _ us hl => match us, hl with | [_, _], _ => rfl
    mg_check_rows := PySem.W.mg_of X G xmg_check_rows
    F_Table_in_order := fun_mk (st := s_Table_in_order) l_Table_in_order c_Table_in_order k_Table_in_order
    b_Table_in_order := (fun_mk (st := s_Table_in_order) l_Table_in_order c_Table_in_order k_Table_in_order).binds fun _ _ _ _ _ _ us hl => match us, hl with | [_, _], _ => rfl
    m_Table_in_order := ⟨am_Table_in_order, if_Table_in_order, k_Table_in_order⟩
    F_Table_init := ⟨⟨_, _, _, _, _, _, _, _, _, _, rfl, l_Table_init, c_Table_init, .inr ⟨by simp, TD_Table_init, _, [.ref e_Table_init], _, rfl, lt_Table_init, rfl, .cons rfl .nil⟩, .inl rfl⟩, k_Table_init⟩
    m_Table_init := ⟨am_Table_init, if_Table_init, k_Table_init⟩
    F_Table_getitem := fun_mk (st := s_Table_getitem) l_Table_getitem c_Table_getitem k_Table_getitem
    b_Table_getitem := (fun_mk (st := s_Table_getitem) l_Table_getitem c_Table_getitem k_Table_getitem).binds fun _ _ _ _ _ _ us hl => match us, hl with | [_, _], _ => rfl
    m_Table_getitem := ⟨am_Table_getitem, if_Table_getitem, k_Table_getitem⟩
    F_Table_len := fun_mk (st := s_Table_len) l_Table_len c_Table_len k_Table_len
    b_Table_len := (fun_mk (st := s_Table_len) l_Table_len c_Table_len k_Table_len).binds fun _ _ _ _ _ _ us hl => match us, hl with | [_], _ => rfl
    m_Table_len := ⟨am_Table_len, if_Table_len, k_Table_len⟩
    F_follow := fun_mk (st := s_follow) l_follow c_follow k_follow
    b_follow := (fun_mk (st := s_follow) l_follow c_follow k_follow).binds fun _ _ _ _ _ _ us hl => match us, hl with | [_, _], _ => rfl
    mg_follow := PySem.W.mg_of X G xmg_follow
    F_step_mask := fun_mk (st := s_step_mask) l_step_mask c_step_mask k_step_mask
    b_step_mask := (fun_mk (st := s_step_mask) l_step_mask c_step_mask k_step_mask).binds fun _ _ _ _ _ _ us hl => match us, hl with | [_, _, _], _ => rfl
    mg_step_mask := PySem.W.mg_of X G xmg_step_mask
    F_combined := fun_mk (st := s_combined) l_combined c_combined k_combined
    b_combined := (fun_mk (st := s_combined) l_combined c_combined k_combined).binds fun _ _ _ _ _ _ us hl => match us, hl with | [_, _, _], _ => rfl
    mg_combined := PySem.W.mg_of X G xmg_combined
    F_law_cell := fun_mk (st := s_law_cell) l_law_cell c_law_cell k_law_cell
    b_law_cell := (fun_mk (st := s_law_cell) l_law_cell c_law_cell k_law_cell).binds fun _ _ _ _ _ _ us hl => match us, hl with | [_, _], _ => rfl
    mg_law_cell := PySem.W.mg_of X G xmg_law_cell
    F_law_pool := fun_mk (st := s_law_pool) l_law_pool c_law_pool k_law_pool
    b_law_pool := (fun_mk (st := s_law_pool) l_law_pool c_law_pool k_law_pool).binds fun _ _ _ _ _ _ us hl => match us, hl with | [_, _, _], _ => rfl
    mg_law_pool := PySem.W.mg_of X G xmg_law_pool
    F_law_size := fun_mk (st := s_law_size) l_law_size c_law_size k_law_size
    b_law_size := (fun_mk (st := s_law_size) l_law_size c_law_size k_law_size).binds fun _ _ _ _ _ _ us hl => match us, hl with | [_, _], _ => rfl
    mg_law_size := PySem.W.mg_of X G xmg_law_size
    F_law_names := fun_mk (st := s_law_names) l_law_names c_law_names k_law_names
    b_law_names := (fun_mk (st := s_law_names) l_law_names c_law_names k_law_names).binds fun _ _ _ _ _ _ us hl => match us, hl with | [_, _], _ => rfl
    mg_law_names := PySem.W.mg_of X G xmg_law_names
    F_law_order := fun_mk (st := s_law_order) l_law_order c_law_order k_law_order
    b_law_order := (fun_mk (st := s_law_order) l_law_order c_law_order k_law_order).binds fun _ _ _ _ _ _ us hl => match us, hl with | [_, _, _], _ => rfl
    mg_law_order := PySem.W.mg_of X G xmg_law_order
    F_law_row := fun_mk (st := s_law_row) l_law_row c_law_row k_law_row
    b_law_row := (fun_mk (st := s_law_row) l_law_row c_law_row k_law_row).binds fun _ _ _ _ _ _ us hl => match us, hl with | [_, _, _, _], _ => rfl
    mg_law_row := PySem.W.mg_of X G xmg_law_row
    F_law_rows := fun_mk (st := s_law_rows) l_law_rows c_law_rows k_law_rows
    b_law_rows := (fun_mk (st := s_law_rows) l_law_rows c_law_rows k_law_rows).binds fun _ _ _ _ _ _ us hl => match us, hl with | [_, _, _, _, _, _], _ => rfl
    mg_law_rows := PySem.W.mg_of X G xmg_law_rows
    F_law_sorted := fun_mk (st := s_law_sorted) l_law_sorted c_law_sorted k_law_sorted
    b_law_sorted := (fun_mk (st := s_law_sorted) l_law_sorted c_law_sorted k_law_sorted).binds fun _ _ _ _ _ _ us hl => match us, hl with | [_, _], _ => rfl
    mg_law_sorted := PySem.W.mg_of X G xmg_law_sorted
    F_law_is_number := fun_mk (st := s_law_is_number) l_law_is_number c_law_is_number k_law_is_number
    b_law_is_number := (fun_mk (st := s_law_is_number) l_law_is_number c_law_is_number k_law_is_number).binds fun _ _ _ _ _ _ us hl => match us, hl with | [_, _, _], _ => rfl
    mg_law_is_number := PySem.W.mg_of X G xmg_law_is_number
    F_law_step := fun_mk (st := s_law_step) l_law_step c_law_step k_law_step
    b_law_step := (fun_mk (st := s_law_step) l_law_step c_law_step k_law_step).binds fun _ _ _ _ _ _ us hl => match us, hl with | [_, _, _, _], _ => rfl
    mg_law_step := PySem.W.mg_of X G xmg_law_step
    F_law_drawn := fun_mk (st := s_law_drawn) l_law_drawn c_law_drawn k_law_drawn
    b_law_drawn := (fun_mk (st := s_law_drawn) l_law_drawn c_law_drawn k_law_drawn).binds fun _ _ _ _ _ _ us hl => match us, hl with | [_, _, _, _], _ => rfl
    mg_law_drawn := PySem.W.mg_of X G xmg_law_drawn
    F_law_instead := fun_mk (st := s_law_instead) l_law_instead c_law_instead k_law_instead
    b_law_instead := (fun_mk (st := s_law_instead) l_law_instead c_law_instead k_law_instead).binds fun _ _ _ _ _ _ us hl => match us, hl with | [_, _, _, _, _], _ => rfl
    mg_law_instead := PySem.W.mg_of X G xmg_law_instead
    F_law_pair := fun_mk (st := s_law_pair) l_law_pair c_law_pair k_law_pair
    b_law_pair := (fun_mk (st := s_law_pair) l_law_pair c_law_pair k_law_pair).binds fun _ _ _ _ _ _ us hl => match us, hl with | [_, _], _ => rfl
    mg_law_pair := PySem.W.mg_of X G xmg_law_pair
    F_law_bad := fun_mk (st := s_law_bad) l_law_bad c_law_bad k_law_bad
    b_law_bad := (fun_mk (st := s_law_bad) l_law_bad c_law_bad k_law_bad).binds fun _ _ _ _ _ _ us hl => match us, hl with | [_, _, _], _ => rfl
    mg_law_bad := PySem.W.mg_of X G xmg_law_bad
    F_law_same := fun_mk (st := s_law_same) l_law_same c_law_same k_law_same
    b_law_same := (fun_mk (st := s_law_same) l_law_same c_law_same k_law_same).binds fun _ _ _ _ _ _ us hl => match us, hl with | [_, _], _ => rfl
    mg_law_same := PySem.W.mg_of X G xmg_law_same
    F_law_refusal := fun_mk (st := s_law_refusal) l_law_refusal c_law_refusal k_law_refusal
    b_law_refusal := (fun_mk (st := s_law_refusal) l_law_refusal c_law_refusal k_law_refusal).binds fun _ _ _ _ _ _ us hl => match us, hl with | [_, _], _ => rfl
    mg_law_refusal := PySem.W.mg_of X G xmg_law_refusal
    F_law := fun_mk (st := s_law) l_law c_law k_law
    b_law := (fun_mk (st := s_law) l_law c_law k_law).binds fun _ _ _ _ _ _ us hl => match us, hl with | [_], _ => rfl
    mg_law := PySem.W.mg_of X G xmg_law
  }
  exact ⟨_, fun s v => .of_eq rfl, fun base _ _ => ok_law T⟩
theorem walk {l : PySem.W.OpenLaw} {q : Program} {loose : List Str} {XP : (Str → Option Value) → Heap → Prop} {YP : World → Heap → Prop} {d : DefRec} {K : Params → PySem.W.Frag} (hn : l.most = some 63) (hdf : d.params.defaults = [])
    (hY : ∀ (w : World) (h : Heap), YP w h → (K w.params).In h)
    (F : ∀ (w : World) (mg : Str → Option Value) (fa : Addr) (h : Heap), (K w.params).In h → h.Ns mainGlobals mg → mg d.name = some (.ref fa) →
      ∃ fd : FuncData, (∀ (s : Shared) (u : Value), BindsTo s fd ⟨[u], []⟩ [("script", u)]) ∧ ∀ base : Heap, (K w.params).In base → base.Ns mainGlobals mg → FnOk l.prog w (K w.params) mg base CX0 15 fa fd ["script"] (spLaw (K w.params))) :
    PySem.W.WalkO q loose XP YP l.row.toRowW d [] (fun f vs => PySem.call f vs) :=
  L2.walk_of (n := 63) (k := 15) (x := "script") (CX := fun _ => CX0) (sp := fun w => spLaw (K w.params)) hn (by decide) hdf ⟨rfl, by decide, by decide⟩ hY F (fun _ _ a ns hl _ hS => ⟨a, ns, rfl, hS, hl, fun _ => rfl⟩) fun _ _ _ _ _ z => z
end My
open PySem PySem.W PyProof.Rows
set_option maxRecDepth 100000 in
set_option maxHeartbeats 0 in
theorem PySem.Challenge.cw_unbrokenrows_k24_steps_followed_holds : PySem.Challenge.rw_unbrokenrows_k24_steps_followed.Holds := by
  w_on; o_law; k_head; (case hw => w_witness2)
  k_fill
  refine My.walk (l := PySem.Challenge.rw_unbrokenrows_k24_steps_followed) rfl rfl (fun w h Y => PySem.W.kIn_of Y) ?F
  case F =>
    intro w mg fa h KX G hmg
    refine' My.all_mk KX G hmg ?xmg_Table ?xmg_RowsError ?xmg_Unknown ?xmg_Impossible ?xmg_BadStep ?am_BadStep_init ?xmg_LONGEST_NAME ?xmg_is_name ?xmg_first_bad_name ?xmg_first_stray ?xmg_numbers_in ?xmg_names_in ?xmg_mask_of ?xmg_check_columns ?xmg_check_rows ?am_Table_in_order ?am_Table_init ?am_Table_getitem ?am_Table_len ?xmg_follow ?xmg_step_mask ?xmg_combined ?xmg_law_cell ?xmg_law_pool ?xmg_law_size ?xmg_law_names ?xmg_law_order ?xmg_law_row ?xmg_law_rows ?xmg_law_sorted ?xmg_law_is_number ?xmg_law_step ?xmg_law_drawn ?xmg_law_instead ?xmg_law_pair ?xmg_law_bad ?xmg_law_same ?xmg_law_refusal ?xmg_law ?if_Table_in_order ?if_Table_init ?if_Table_getitem ?if_Table_len ?l_BadStep_init ?l_is_name ?l_first_bad_name ?l_first_stray ?l_numbers_in ?l_names_in ?l_mask_of ?l_check_columns ?l_check_rows ?l_Table_in_order ?l_Table_init ?l_Table_getitem ?l_Table_len ?l_follow ?l_step_mask ?l_combined ?l_law_cell ?l_law_pool ?l_law_size ?l_law_names ?l_law_order ?l_law_row ?l_law_rows ?l_law_sorted ?l_law_is_number ?l_law_step ?l_law_drawn ?l_law_instead ?l_law_pair ?l_law_bad ?l_law_same ?l_law_refusal ?l_law ?lx_BadStep_init ?lq_BadStep_init ?c_BadStep_init ?c_is_name ?k_is_name ?c_first_bad_name ?k_first_bad_name ?c_first_stray ?k_first_stray ?c_numbers_in ?k_numbers_in ?c_names_in ?k_names_in ?c_mask_of ?k_mask_of ?c_check_columns ?k_check_columns ?c_check_rows ?k_check_rows ?c_Table_in_order ?k_Table_in_order ?c_Table_init ?k_Table_init ?lt_Table_init ?c_Table_getitem ?k_Table_getitem ?c_Table_len ?k_Table_len ?c_follow ?k_follow ?c_step_mask ?k_step_mask ?c_combined ?k_combined ?c_law_cell ?k_law_cell ?c_law_pool ?k_law_pool ?c_law_size ?k_law_size ?c_law_names ?k_law_names ?c_law_order ?k_law_order ?c_law_row ?k_law_row ?c_law_rows ?k_law_rows ?c_law_sorted ?k_law_sorted ?c_law_is_number ?k_law_is_number ?c_law_step ?k_law_step ?c_law_drawn ?k_law_drawn ?c_law_instead ?k_law_instead ?c_law_pair ?k_law_pair ?c_law_bad ?k_law_bad ?c_law_same ?k_law_same ?c_law_refusal ?k_law_refusal ?c_law ?k_law ?pgcl_Table ?hdcl_Table ?pocl_Table ?sacl_Table ?xsf_Table ?kmk_Table ?kkmk_Table ?xc1_Table ?xc3_Table ?xn_Table_columns ?xn_Table_rows ?xc2 ?xc4 ?xtp_RowsError ?xic_RowsError ?xtp_Unknown ?xic_Unknown ?xtp_Impossible ?xic_Impossible ?xtp_BadStep ?xic_BadStep ?g1SC_BadStep ?g2SC_BadStep ?ksSC_BadStep ?g4SC_BadStep ?g5SC_BadStep ?rfSC_BadStep ?kxSC_BadStep ?g6SC_BadStep ?rv_BadStep_init ?rg_BadStep_init ?xti_BadStep ?xxn_BadStep_index ?xk_BadStep ?xbp_BadStep ?xsv_BadStep ?xss_BadStep ?xsu_BadStep_RowsError ?xsu_BadStep_Unknown ?xsu_BadStep_Impossible ?xe1_BadStep ?xe2_BadStep ?xe3_BadStep ?xe4_BadStep ?xe5_BadStep ?r1cr_Table ?r2cr_Table ?xcv_Table_MOST_COLUMNS ?xcv_Table_MOST_ROWS ?xn_abs ?xn_int ?xn_isinstance ?xn_range ?xn_len ?xn_str ?xn_tuple ?xn_list ?xn_ValueError ?xn_all ?xn_max ?xn_min ?xn_enumerate ?xn_bool ?xn_sum
    (case xmg_Table => k_is)
    (case xmg_RowsError => k_is)
    (case xmg_Unknown => k_is)
    (case xmg_Impossible => k_is)
    (case xmg_BadStep => k_is)
    (case am_BadStep_init => k_is)
    (case xmg_LONGEST_NAME => k_is)
    (case xmg_is_name => k_is)
    (case xmg_first_bad_name => k_is)
    (case xmg_first_stray => k_is)
    (case xmg_numbers_in => k_is)
    (case xmg_names_in => k_is)
    (case xmg_mask_of => k_is)
    (case xmg_check_columns => k_is)
    (case xmg_check_rows => k_is)
    (case am_Table_in_order => k_is)
    (case am_Table_init => k_is)
    (case am_Table_getitem => k_is)
    (case am_Table_len => k_is)
    (case xmg_follow => k_is)
    (case xmg_step_mask => k_is)
    (case xmg_combined => k_is)
    (case xmg_law_cell => k_is)
    (case xmg_law_pool => k_is)
    (case xmg_law_size => k_is)
    (case xmg_law_names => k_is)
    (case xmg_law_order => k_is)
    (case xmg_law_row => k_is)
    (case xmg_law_rows => k_is)
    (case xmg_law_sorted => k_is)
    (case xmg_law_is_number => k_is)
    (case xmg_law_step => k_is)
    (case xmg_law_drawn => k_is)
    (case xmg_law_instead => k_is)
    (case xmg_law_pair => k_is)
    (case xmg_law_bad => k_is)
    (case xmg_law_same => k_is)
    (case xmg_law_refusal => k_is)
    (case xmg_law => k_is)
    (case if_Table_in_order => k_is)
    (case if_Table_init => k_is)
    (case if_Table_getitem => k_is)
    (case if_Table_len => k_is)
    (case l_BadStep_init => k_is)
    (case l_is_name => k_is)
    (case l_first_bad_name => k_is)
    (case l_first_stray => k_is)
    (case l_numbers_in => k_is)
    (case l_names_in => k_is)
    (case l_mask_of => k_is)
    (case l_check_columns => k_is)
    (case l_check_rows => k_is)
    (case l_Table_in_order => k_is)
    (case l_Table_init => k_is)
    (case l_Table_getitem => k_is)
    (case l_Table_len => k_is)
    (case l_follow => k_is)
    (case l_step_mask => k_is)
    (case l_combined => k_is)
    (case l_law_cell => k_is)
    (case l_law_pool => k_is)
    (case l_law_size => k_is)
    (case l_law_names => k_is)
    (case l_law_order => k_is)
    (case l_law_row => k_is)
    (case l_law_rows => k_is)
    (case l_law_sorted => k_is)
    (case l_law_is_number => k_is)
    (case l_law_step => k_is)
    (case l_law_drawn => k_is)
    (case l_law_instead => k_is)
    (case l_law_pair => k_is)
    (case l_law_bad => k_is)
    (case l_law_same => k_is)
    (case l_law_refusal => k_is)
    (case l_law => k_is)
    (case lx_BadStep_init => k_is)
    (case lq_BadStep_init => k_is)
    (case c_BadStep_init => k_is)
    (case c_is_name => k_is)
    (case k_is_name => k_is)
    (case c_first_bad_name => k_is)
    (case k_first_bad_name => k_is)
    (case c_first_stray => k_is)
    (case k_first_stray => k_is)
    (case c_numbers_in => k_is)
    (case k_numbers_in => k_is)
    (case c_names_in => k_is)
    (case k_names_in => k_is)
    (case c_mask_of => k_is)
    (case k_mask_of => k_is)
    (case c_check_columns => k_is)
    (case k_check_columns => k_is)
    (case c_check_rows => k_is)
    (case k_check_rows => k_is)
    (case c_Table_in_order => k_is)
    (case k_Table_in_order => k_is)
    (case c_Table_init => k_is)
    (case k_Table_init => k_is)
    (case lt_Table_init => k_is)
    (case c_Table_getitem => k_is)
    (case k_Table_getitem => k_is)
    (case c_Table_len => k_is)
    (case k_Table_len => k_is)
    (case c_follow => k_is)
    (case k_follow => k_is)
    (case c_step_mask => k_is)
    (case k_step_mask => k_is)
    (case c_combined => k_is)
    (case k_combined => k_is)
    (case c_law_cell => k_is)
    (case k_law_cell => k_is)
    (case c_law_pool => k_is)
    (case k_law_pool => k_is)
    (case c_law_size => k_is)
    (case k_law_size => k_is)
    (case c_law_names => k_is)
    (case k_law_names => k_is)
    (case c_law_order => k_is)
    (case k_law_order => k_is)
    (case c_law_row => k_is)
    (case k_law_row => k_is)
    (case c_law_rows => k_is)
    (case k_law_rows => k_is)
    (case c_law_sorted => k_is)
    (case k_law_sorted => k_is)
    (case c_law_is_number => k_is)
    (case k_law_is_number => k_is)
    (case c_law_step => k_is)
    (case k_law_step => k_is)
    (case c_law_drawn => k_is)
    (case k_law_drawn => k_is)
    (case c_law_instead => k_is)
    (case k_law_instead => k_is)
    (case c_law_pair => k_is)
    (case k_law_pair => k_is)
    (case c_law_bad => k_is)
    (case k_law_bad => k_is)
    (case c_law_same => k_is)
    (case k_law_same => k_is)
    (case c_law_refusal => k_is)
    (case k_law_refusal => k_is)
    (case c_law => k_is)
    (case k_law => k_is)
    (case pgcl_Table => k_is)
    (case hdcl_Table => k_is)
    (case pocl_Table => k_is)
    (case sacl_Table => k_is)
    (case xsf_Table => k_is)
    (case kmk_Table => k_is)
    (case kkmk_Table => k_is)
    (case xc1_Table => k_is)
    (case xc3_Table => k_is)
    (case xn_Table_columns => k_is)
    (case xn_Table_rows => k_is)
    (case xc2 => k_is)
    (case xc4 => k_is)
    (case xtp_RowsError => k_is)
    (case xic_RowsError => k_is)
    (case xtp_Unknown => k_is)
    (case xic_Unknown => k_is)
    (case xtp_Impossible => k_is)
    (case xic_Impossible => k_is)
    (case xtp_BadStep => k_is)
    (case xic_BadStep => k_is)
    (case g1SC_BadStep => k_is)
    (case g2SC_BadStep => k_is)
    (case ksSC_BadStep => ks_is)
    (case g4SC_BadStep => k_is)
    (case g5SC_BadStep => k_is)
    (case rfSC_BadStep => first | rfl | decide +kernel)
    (case kxSC_BadStep => kx_is)
    (case g6SC_BadStep => k_is)
    (case rv_BadStep_init => first | rfl | decide +kernel)
    (case rg_BadStep_init => first | rfl | decide +kernel)
    (case xti_BadStep => k_is)
    (case xxn_BadStep_index => k_is)
    (case xk_BadStep => k_is)
    (case xbp_BadStep => k_is)
    (case xsv_BadStep => k_is)
    (case xss_BadStep => k_is)
    (case xsu_BadStep_RowsError => k_is)
    (case xsu_BadStep_Unknown => k_is)
    (case xsu_BadStep_Impossible => k_is)
    (case xe1_BadStep => k_is)
    (case xe2_BadStep => k_is)
    (case xe3_BadStep => k_is)
    (case xe4_BadStep => k_is)
    (case xe5_BadStep => k_is)
    (case r1cr_Table => k_is)
    (case r2cr_Table => k_is)
    (case xcv_Table_MOST_COLUMNS => k_is)
    (case xcv_Table_MOST_ROWS => k_is)
    (case xn_abs => k_is)
    (case xn_int => k_is)
    (case xn_isinstance => k_is)
    (case xn_range => k_is)
    (case xn_len => k_is)
    (case xn_str => k_is)
    (case xn_tuple => k_is)
    (case xn_list => k_is)
    (case xn_ValueError => k_is)
    (case xn_all => k_is)
    (case xn_max => k_is)
    (case xn_min => k_is)
    (case xn_enumerate => k_is)
    (case xn_bool => k_is)
    (case xn_sum => k_is)
#print axioms PySem.Challenge.cw_unbrokenrows_k24_steps_followed_holds
