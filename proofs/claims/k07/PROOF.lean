import PyProof.Rows.All
import Wide.All
import OpenK.AllK
import Wide.FinOn
import HandS.Base
import HandS.Call
import HandS.List
import HandS.OwnEq
import HandS.Ends
import HandS.ClsMeth
import HandS.ExcOwn
import HandS.ExcIs
import HandS.TryOnly
import KE.KExcSuper
import HandS.ExcInit
import HandS.ExcField
import HandS.Words
import HandS.SortKw
import HandS.IterNext
import KE.DataMinMax
import KE.KExcIs
import KE.KExcLine
import HandS.OwnIter
import HandS.Walk
import KE.GoesMore
import HandS.SetFor
import HandS.ForMost
import HandS.Wide
import HandS.IsInst
import HandS.Defaults
import HandS.FStr
import HandS.Style
import HandS.StrMore
import HandS.Replace
import HandS.Text
import HandS.Codes
import HandS.WordsExc
import HandS.More
import HandS.Star
import PyProof.StrBlock2
import PyProof.StrLawsChain
import PyProof.Rows.StrCut
import HandS.TupAny
import PySem.Challenge.RW_unbrokenrows_k07_form_texts
set_option Elab.async false
set_option linter.all false
set_option maxRecDepth 100000
namespace My
open PySem PySem.Spec PyProof.Rows L2
section
variable {X : Cx} {CX : CXT} {n : Nat} {f C : Addr} {fd : FuncData} {ps : List Str} {sp : Sp} {E : XK}
/-- a promise, called anywhere in the running body -/
theorem call_at (G0 : FnOk X.prog X.w X.K X.mg X.base CX n f fd ps sp) (hb : Binds X.K fd ps []) (hx : Passes CX X E) {A : Around} (hr : Room n A) (hA : A.frames = X.A.frames)
    {pins : List (Addr × Obj)} {s : Shared} {σ : L2.St} {H : Hp} (I : Inv X pins σ H s) {vs : List V} {us : List Value} (r : Vals vs us) {Q : VK} (h : sp vs H Q E) :
    wpAny (model X.prog X.w) A (call (.ref f) us) (EP X pins σ Q) X.xe s := by
  have e0 : Env0 X.prog X.w X.K X.mg X.base A X.stack s H := by
    have e := I.env0
    exact ⟨by rw [hA]; exact e.frames, e.mod, e.bs, e.bsz, e.funs, e.frf, e.hok, e.bare⟩
  have hl := G0.len _ _ _ _ h
  refine wpAny_call (codeAny_mono (G0.run A X.stack s H ⟨us, []⟩ us vs Q E hr e0 (by
    have := hb s us I.kIn (by rw [List.append_nil, ← r.length]; exact hl)
    simpa using this) r h) fun r s' hq => ?_)
  cases r with
  | error e => exact hx pins σ H s e s' I hq
  | ok fl =>
    cases fl with
    | ret w => exact I.after hq
    | next => exact False.elim hq
    | brk => exact False.elim hq
    | cont => exact False.elim hq
theorem relV_noNI {v : V} {u : Value} (r : RelV v u) : u ≠ .notImplemented := by
  intro e
  subst e
  cases v <;> first | (cases r; done) | (obtain ⟨_, z⟩ := r; cases z)
theorem cmpBack_of {pins : List (Addr × Obj)} {σ : L2.St} {Q : VK} {v : Value} {s : Shared} (h : EP X pins σ Q v s) : PySem.W.CmpBack (EP X pins σ Q) v s := by
  obtain ⟨x, H', I', r, q⟩ := id h
  cases v <;> first | exact h | exact absurd rfl (relV_noNI r)
/-- x op y, both instances of the class at C, by its own method -/
def rOwn2 (C : Addr) (sp : Sp) (E : XK) : R2 := fun x y H Q => ∃ a b dx dy fs gs, x = .ref a ∧ y = .ref b ∧ H a = some (.ins C dx fs) ∧ H b = some (.ins C dy gs) ∧ sp [.ref a, .ref b] H Q E
theorem op_own2 {op : Operator} (G0 : FnOk X.prog X.w X.K X.mg X.base CX n f fd ps sp) (hb : Binds X.K fd ps []) (hx : Passes CX X E) (hr : Room n X.A)
    (hs : PySem.W.findIn X.K (.ref C) (PySem.dunder op.info.2) = some (some (.ref f))) (hf : PySem.W.isFn X.K (.ref f) = true) (hc : PySem.W.selfFirst X.K C = true) : OpR X (binaryOp op) (rOwn2 C sp E) := by
  intro pins s σ H x y v u Q I rx ry h
  obtain ⟨a, b, dx, dy, fs, gs, rfl, rfl, ha, hb', q⟩ := h
  cases rx
  cases ry
  obtain ⟨mA, J, _⟩ := ins_get I.hok ha
  obtain ⟨mB, J', _⟩ := ins_get I.hok hb'
  obtain ⟨od, J, _⟩ := J.look
  obtain ⟨od', J', _⟩ := J'.look
  obtain ⟨m, hF⟩ := I.fr
  refine PySem.W.binop_K hF I.ok.mod.kin J J'.type hc hs hf ?_
  exact wpAny_mono (call_at G0 hb hx hr rfl I (vs := [.ref a, .ref b]) (.cons rfl (.cons rfl .nil)) q) (fun v s' z => cmpBack_of z) fun _ _ z => z
/-- x op k, x such an instance, k a whole number -/
def rOwnI (C : Addr) (sp : Sp) (E : XK) : R2 := fun x y H Q => ∃ a dx fs k, x = .ref a ∧ y = .int k ∧ H a = some (.ins C dx fs) ∧ sp [.ref a, .int k] H Q E
theorem op_ownI {op : Operator} {fo ro rc : Option Value} (G0 : FnOk X.prog X.w X.K X.mg X.base CX n f fd ps sp) (hb : Binds X.K fd ps []) (hx : Passes CX X E) (hr : Room n X.A)
    (hs : PySem.W.findIn X.K (.ref C) (PySem.dunder op.info.2) = some (some (.ref f))) (hf : PySem.W.isFn X.K (.ref f) = true) (hc : PySem.W.selfFirst X.K C = true)
    (hrr : PySem.W.findIn X.K (.ref C) (dunderR op.info.2) = some rc) (hp : rc = none ∨ ∃ g : Addr, rc = some (.ref g))
    (h1 : PySem.W.findIn X.K (.type "int") (PySem.dunder op.info.2) = some fo) (h2 : PySem.W.findIn X.K (.type "int") (dunderR op.info.2) = some ro) (hsub : PySem.W.subIn X.K (.type "int") (.ref C) = some false) :
    OpR X (binaryOp op) (rOwnI C sp E) := by
  intro pins s σ H x y v u Q I rx ry h
  obtain ⟨a, dx, fs, k, rfl, rfl, ha, q⟩ := h
  cases rx
  obtain ⟨t, rfl⟩ := ry
  obtain ⟨mA, J, _⟩ := ins_get I.hok ha
  obtain ⟨od, J, _⟩ := J.look
  obtain ⟨m, hF⟩ := I.fr
  refine PySem.W.ksp_binT (T := "int") hF I.ok.mod.kin J rfl hc hs hf hrr hp h1 h2 hsub ?_
  exact wpAny_mono (call_at G0 hb hx hr rfl I (vs := [.ref a, .int k]) (.cons rfl (.cons ⟨_, rfl⟩ .nil)) q) (fun v s' z => cmpBack_of z) fun _ _ z => z
/-- one-place operators of such an instance -/
def rOwn1 (C : Addr) (sp : Sp) (E : XK) : V → Hp → VK → Prop := fun x H Q => ∃ a dx fs, x = .ref a ∧ H a = some (.ins C dx fs) ∧ sp [.ref a] H Q E
theorem un_own (G0 : FnOk X.prog X.w X.K X.mg X.base CX n f fd ps sp) (hb : Binds X.K fd ps []) (hx : Passes CX X E) (hr : Room n X.A)
    (hs : PySem.W.findIn X.K (.ref C) "__neg__" = some (some (.ref f))) (hf : PySem.W.isFn X.K (.ref f) = true) : UnR X (unaryOp .USub) (rOwn1 C sp E) := by
  intro pins s σ H x v Q I rx h
  obtain ⟨a, dx, fs, rfl, ha, q⟩ := h
  cases rx
  obtain ⟨mA, J, _⟩ := ins_get I.hok ha
  obtain ⟨od, J, _⟩ := J.look
  obtain ⟨m, hF⟩ := I.fr
  exact PySem.W.ksp_neg hF I.ok.mod.kin J hs hf (call_at G0 hb hx hr rfl I (vs := [.ref a]) (.cons rfl .nil) q)
/-- abs(x), bool(x) of such an instance -/
theorem call_absOwn (G0 : FnOk X.prog X.w X.K X.mg X.base CX n f fd ps sp) (hb : Binds X.K fd ps []) (hx : Passes CX X E) (hr : Room (n + 1) X.A)
    (hs : PySem.W.findIn X.K (.ref C) "__abs__" = some (some (.ref f))) (hf : PySem.W.isFn X.K (.ref f) = true) :
    CallR X (.builtin "abs") (fun xs H Q => ∃ a dx fs, xs = [V.ref a] ∧ H a = some (.ins C dx fs) ∧ sp [.ref a] H Q E) := by
  intro pins s σ H xs us Q I r h
  obtain ⟨a, dx, fs, rfl, ha, q⟩ := h
  obtain ⟨u, rfl, r1⟩ := vals1 r
  cases r1
  obtain ⟨mA, J, _⟩ := ins_get I.hok ha
  obtain ⟨od, J, _⟩ := J.look
  refine PySem.Calls.call_function_entry kind_abs plain_abs entry_abs (args_abs _) ?_
  unfold Builtin.«abs»
  refine wpAny_bind (m := oneArg "abs" _) (wpAny_pure ?_)
  refine wpAny_bind (m := callSpecial? (.ref a) (Str.ofString "__abs__")) (PySem.W.special_fn I.kIn J hs (beq_iff_eq.mp hf) ?_)
  refine wpAny_mono (call_at G0 hb hx (A := X.A.in1) hr.in1 rfl I (vs := [.ref a]) (.cons rfl .nil) q) (fun v s' z => ?_) fun _ _ z => z
  exact wpAny_pure ⟨_, rfl, z⟩
theorem meets_bool_own (prog : Program) (w : World) (l : Addr) : MeetsIn prog w (Builtin.«bool.__new__» ⟨[.type "bool", .ref l], []⟩)
    (fun A R s => wpAny (model prog w) A.in1 (truthy (.ref l)) (fun b s' => R (.ok (.ret (.bool b))) s') (fun e s' => R (.error e) s') s) := by
  intro A R s hs
  have f1 := F.conv_sub_bool
  unfold Builtin.«bool.__new__»
  dsimp only
  repeat (any_goals (first | assumption | (with_reducible refine wpAny_mono hs (fun b s' z => ?_) (fun _ _ z => z)) | wp_step))
  all_goals first | exact z | skip
theorem call_boolOwn (G0 : FnOk X.prog X.w X.K X.mg X.base CX n f fd ps sp) (hb : Binds X.K fd ps []) (hx : Passes CX X E) (hr : Room (n + 2) X.A)
    (hs : PySem.W.findIn X.K (.ref C) "__bool__" = some (some (.ref f))) (hf : PySem.W.isFn X.K (.ref f) = true) :
    CallR X (.type "bool") (fun xs H Q => ∃ a dx fs, xs = [V.ref a] ∧ H a = some (.ins C dx fs) ∧ sp [.ref a] H (fun v H' => ∃ k, v = .bl k ∧ Q v H') E) := by
  intro pins s σ H xs us Q I r h
  obtain ⟨a, dx, fs, rfl, ha, q⟩ := h
  obtain ⟨u, rfl, r1⟩ := vals1 r
  cases r1
  obtain ⟨mA, J, _⟩ := ins_get I.hok ha
  obtain ⟨od, J, _⟩ := J.look
  obtain ⟨m, hF⟩ := I.fr
  refine callType_newIn F.called_bool F.newNe_bool (F.typeCall_bool_1 _) (F.newCall_bool_1 _) (fun obj => F.args_object_init_2 obj _) F.entry_bool_new (meets_bool_own X.prog X.w a) ?_
  refine PySem.W.truthy_K hF I.ok.mod.kin J hs hf ?_
  refine wpAny_mono (call_at G0 hb hx (A := X.A.in1.in1) hr.in1.in1 rfl I (vs := [.ref a]) (.cons rfl .nil) q) (fun v s' z => ?_) fun _ _ z => z
  obtain ⟨x, H', I', r, k, rfl, q'⟩ := z
  cases r
  exact ⟨PySem.typeIs_bool _ _, .bl k, H', I', rfl, q'⟩
/-- == of two such instances -/
def rOwnEq (C : Addr) (sp : Sp) (E : XK) : R2 := fun x y H Q => ∃ a b dx dy fs gs, x = .ref a ∧ y = .ref b ∧ H a = some (.ins C dx fs) ∧ H b = some (.ins C dy gs) ∧ sp [.ref a, .ref b] H Q E
theorem op_eqOwn (G0 : FnOk X.prog X.w X.K X.mg X.base CX n f fd ps sp) (hb : Binds X.K fd ps []) (hx : Passes CX X E) (hr : Room n X.A)
    (hs : PySem.W.findIn X.K (.ref C) "__eq__" = some (some (.ref f))) (hf : PySem.W.isFn X.K (.ref f) = true) : OpR X (compareOp .Eq) (rOwnEq C sp E) := by
  intro pins s σ H x y v u Q I rx ry h
  obtain ⟨a, b, dx, dy, fs, gs, rfl, rfl, ha, hb', q⟩ := h
  cases rx
  cases ry
  obtain ⟨mA, J, _⟩ := ins_get I.hok ha
  obtain ⟨mB, J', _⟩ := ins_get I.hok hb'
  obtain ⟨od, J, _⟩ := J.look
  obtain ⟨od', J', _⟩ := J'.look
  obtain ⟨m, hF⟩ := I.fr
  show wpAny (model X.prog X.w) X.A (richCompare .Eq (.ref a) (.ref b)) (EP X pins σ Q) X.xe s
  refine PySem.W.cmp_K (op := .Eq) (tb := .ref C) hr.units0 hF I.ok.mod.kin J J'.type (by simp [PySem.W.notFirst]) hs hf ?_
  exact wpAny_mono (call_at G0 hb hx hr rfl I (vs := [.ref a, .ref b]) (.cons rfl (.cons rfl .nil)) q) (fun v s' z => cmpBack_of z) fun _ _ z => z
end
end My
set_option maxRecDepth 100000
namespace My
open PySem PySem.Spec PyProof.Rows L2
open ClX (CRead)
section
variable {X : Cx} {CX : CXT} {n k : Nat} {f C : Addr} {fd : FuncData} {ps : List Str} {sp : Sp} {E : XK}
/-- str(x) of an instance with its own __str__ -/
theorem call_strOwn (G0 : FnOk X.prog X.w X.K X.mg X.base CX n f fd ps sp) (hb : Binds X.K fd ps []) (hx : Passes CX X E) (hr : Room (n + 2) X.A)
    (hs : PySem.W.findIn X.K (.ref C) "__str__" = some (some (.ref f))) (hf : PySem.W.isFn X.K (.ref f) = true) :
    CallR X (.type "str") (fun xs H Q => ∃ a dx fs, xs = [V.ref a] ∧ H a = some (.ins C dx fs) ∧ sp [.ref a] H (fun v H' => ∃ z, v = .str z ∧ Q v H') E) := by
  intro pins s σ H xs us Q I r h
  obtain ⟨a, dx, fs, rfl, ha, q⟩ := h
  obtain ⟨u, rfl, r1⟩ := vals1 r
  cases r1
  obtain ⟨mA, J, _⟩ := ins_get I.hok ha
  obtain ⟨od, J, _⟩ := J.look
  refine PySem.W.kso_call (hr.in1.in1.units0) I.kIn J hs hf ?_
  refine wpAny_mono (call_at G0 hb hx (A := X.A.in1.in1) hr.in1.in1 rfl I (vs := [.ref a]) (.cons rfl .nil) q) (fun v s' z => ?_) fun _ _ z => z
  obtain ⟨x, H', I', r, y, rfl, q'⟩ := z
  obtain ⟨t, rfl⟩ := r
  exact ⟨.str y, H', I', ⟨_, rfl⟩, q'⟩
/-- C.m is a staticmethod: its record at p, its def at g -/
structure SMet (K : PySem.W.Frag) (C : Addr) (mc : Value) (m : Str) (p g : Addr) : Prop where
  at_ : PySem.W.findCls K (.ref C) mc m = some (.get (.builtin "staticmethod.__get__") (.ref p) .none (.ref C))
  rc : ∃ rest, PySem.W.recIn K p "staticmethod" = some (.ref g :: rest)
  kp : PySem.W.keepIn K (.ref g) = true
theorem getmethsm_ok {pins : List (Addr × Obj)} {σ : L2.St} {H : Hp} {s : Shared} {p g : Addr} {mc : Value} {m : Str} {A : Around} {E : Value → Shared → Prop} {pl : Sem Bool} {Q : Value × List Value → Shared → Prop} (I : Inv X pins σ H s) (r : CRead X.K C mc) (k : SMet X.K C mc m p g)
    (h : ∀ s', Inv X pins σ H s' → Q (.ref g, []) s') : wpAny (model X.prog X.w) A (getMethod (.ref C) m pl) Q E s := by
  refine PySem.W.method_cls I.kIn r.ga ?_
  obtain ⟨rest, hp⟩ := k.rc
  refine PySem.W.cls_bind I.kIn r.rd k.at_ ?_
  refine wpAny_call (PySem.W.sm_get (s := { s with toks := s.toks + 1 }) I.kIn hp (PySem.W.handed_on rfl ?_))
  exact h _ (I.tok _)
/-- C.m(e, ..), m a staticmethod of the class at C -/
def tSMeth (C : Addr) (sp : Sp) (dvs : List V) (E : XK) (ta : TE) (t : TA) : TE := fun σ H Q => ta σ H fun x H1 => x = .ref C ∧ t σ H1 fun vs H2 => sp (vs ++ dvs) H2 Q E
theorem pe_smeth {o e : Expr} {es : List Expr} {p g : Addr} {mc : Value} {m : Str} {pos apos : Pos} {ta : TE} {t : TA} {pl : Sem Bool} {ds : List Value} {dvs : List V} (he : PE X o ta) (r : CRead X.K C mc) (c : SMet X.K C mc m p g)
    (G0 : FnOk X.prog X.w X.K X.mg X.base CX k g fd ps sp) (hr : Room k X.A) (hb : Binds X.K fd ps ds) (hd : Vals dvs ds) (hx : Passes CX X E) (ha : PA X (e :: es) t)
    (hst : starEach (e :: es) X.env = (false, eval e X.env) :: starEach es X.env := by rfl) (hpl : (backTo pos (starEach es X.env)).any (·.1) = false := by rfl)
    (ht : eval (.Call (.Attribute o m apos) (e :: es) [] pos) X.env = (do
      let ov ← eval o X.env
      standAt apos.atName
      let (f, first) ← holding [ov] (getMethod ov m pl)
      callWith pos f first (backTo pos (starEach (e :: es) X.env)) (backToKw pos (keywordEach [] X.env))) := by rfl) :
    PE X (.Call (.Attribute o m apos) (e :: es) [] pos) (tSMeth C sp dvs E ta t) := by
  refine ⟨fun pins s σ H Q I h => ?_⟩
  refine PySem.W.methodCall_KW (pl := pl) (thn (he.run pins s σ H _ I h) fun u s1 ⟨x, H1, I1, rx, ex, q⟩ => ?_) ht
  subst ex
  obtain rfl : u = Value.ref C := rx
  refine getmethsm_ok I1 r c fun s2 I2 => ?_
  refine PySem.W.callWith_K (h₀ := X.base) I2.ok.mod.kin c.kp (thn (ha.run pos pins s2 σ H1 _ I2 q) fun us s3 ⟨vs, H2, I3, r3, q3⟩ => ⟨I3.kIn, ?_⟩) hst hpl
  exact run_fn G0 hr hb hd hx I3 r3 q3
/-- C(e, ..) where what its __init__ raises is wished for -/
def tMakeS (C : Addr) (sp : Sp) (E : L2.St → XK) (t : TA) : TE := fun σ H Q => t σ H fun vs H1 => ∀ x dx, H1 x = none → H1 dx = none → dx ≠ x →
  sp (.ref x :: vs) (upd (upd H1 dx (.own x)) x (.ins C dx [])) (fun v H2 => v = .non ∧ Q (.ref x) H2) (E σ)
theorem run_makeS {E : L2.St → XK} {pins : List (Addr × Obj)} {σ : L2.St} {H : Hp} {s : Shared} {Q : VK} {us : List Value} {vs : List V} (M : Mk X.K C f) (G0 : FnOk X.prog X.w X.K X.mg X.base CX k f fd ps sp) (hr : Room (k + 1) X.A) (hb : Binds X.K fd ps [])
    (hx : PassesAt CX X σ (E σ)) (I : Inv X pins σ H s) (r : Vals vs us)
    (h : ∀ x dx, H x = none → H dx = none → dx ≠ x → sp (.ref x :: vs) (upd (upd H dx (.own x)) x (.ins C dx [])) (fun v H2 => v = .non ∧ Q (.ref x) H2) (E σ)) :
    wpAny (model X.prog X.w) X.A (call (.ref C) us) (EP X pins σ Q) X.xe s := by
  have hq := h (s.heap.objs.size + 1) s.heap.objs.size (I.hok.fresh (Nat.le_succ _)) (I.hok.fresh (Nat.le_refl _)) (Nat.ne_of_lt (Nat.lt_succ_self _))
  have I2 := Inv.made (C := C) I
  have r2 : Vals (V.ref (s.heap.objs.size + 1) :: vs) (Value.ref (s.heap.objs.size + 1) :: us) := .cons rfl r
  have hl : (Value.ref (s.heap.objs.size + 1) :: us).length = ps.length := by
    have e := r2.length
    rw [G0.len _ _ _ _ hq] at e
    exact e.symm
  have b := hb _ (Value.ref (s.heap.objs.size + 1) :: us) I2.kIn (by rw [List.append_nil]; exact hl)
  rw [List.append_nil] at b
  refine wpAny_call (make_map (f := f) I.kIn M.makes M.init (beq_iff_eq.mp M.fn) (codeAny_mono (G0.run _ X.stack _ _ ⟨Value.ref (s.heap.objs.size + 1) :: us, []⟩ (Value.ref (s.heap.objs.size + 1) :: us) _ _ (E σ) (hr.make C us [])
    (I2.env0.make C us []) b r2 hq) fun r s' hq' => ?_))
  cases r with
  | error e => exact hx pins _ _ e s' I2 hq'
  | ok fl =>
    cases fl with
    | ret u =>
      obtain ⟨v, H', I3, rv, ev, q3⟩ := I2.after hq'
      subst ev
      exact ⟨rv, ⟨V.ref (s.heap.objs.size + 1), H', I3, rfl, q3⟩⟩
    | next => exact False.elim hq'
    | brk => exact False.elim hq'
    | cont => exact False.elim hq'
theorem pe_makeS {E : L2.St → XK} {x : Str} {p pos : Pos} {e : Expr} {es : List Expr} {t : TA} (M : Mk X.K C f) (G0 : FnOk X.prog X.w X.K X.mg X.base CX k f fd ps sp) (hr : Room (k + 1) X.A) (hg : Gl X x) (hm : X.mg x = some (.ref C)) (hb : Binds X.K fd ps []) (hx : ∀ σ, PassesAt CX X σ (E σ))
    (ha : PA X (e :: es) t) (hdb : (x == ("__debug__" : Str)) = false := by decide) (he : starEach (e :: es) X.env = (false, eval e X.env) :: starEach es X.env := by rfl) (hpl : (backTo pos (starEach es X.env)).any (·.1) = false := by rfl) :
    PE X (.Call (.Name x p) (e :: es) [] pos) (tMakeS C sp E t) := by
  refine ⟨fun pins s σ H Q I h => ?_⟩
  refine wpAny_Call_Name_kw (ld_glob I hg hm ?_ hdb)
  refine PySem.W.callWith_K (h₀ := X.base) I.ok.mod.kin M.kp (thn (ha.run pos pins s σ H _ I h) fun us s1 ⟨vs, H1, I1, r, q⟩ => ⟨I1.kIn, ?_⟩) he hpl
  exact run_makeS M G0 hr hb (hx σ) I1 r q
end
/-- isinstance(e, c) in an except suite of any error -/
theorem call_isEx {X : Cx} {a : Addr} {oe : Obj} {cls : Value} {d : Option Addr} {pn : List (Addr × Obj)} (hz : Zc cls d oe) (hf : ∃ vs, oe.data = .fields vs) :
    CallR (X.suite a ((a, oe) :: pn)) (.builtin "isinstance") (fun xs H Q => ∃ D, cls = .ref D ∧ d = none ∧ ExcC X.K D ∧ rIsE X.K D a xs H Q) := by
  intro pins s σ H xs us Q I r h
  obtain ⟨D, rfl, rfl, c, q⟩ := h
  exact call_isE c hz hf pins s σ H xs us Q I r q
/-- an own class against an own class, against a built-in one -/
theorem kit_own {K : PySem.W.Frag} {C D : Addr} {b : Bool} (hi : PySem.W.isClsIn K D = true) (ht : PySem.W.typeIn K (.ref D) = some (.type "type")) (hs : PySem.W.subIn K (.ref C) (.ref D) = some b) (hne : C ≠ D ∨ b = true) : PySem.W.kitOne K (.ref C) (.ref D) = some b := by
  unfold PySem.W.kitOne
  by_cases e : C = D
  · rcases hne with h | h
    · exact absurd e h
    · rw [if_pos (by rw [e]; simp), h]
  · rw [if_neg (by simp [e])]
    show (if ((PySem.W.clsIn K D).isSome && PySem.W.typeIn K (.ref D) == some (.type "type")) = true then _ else _) = _
    rw [if_pos (by
      rw [ht]
      have : (PySem.W.clsIn K D).isSome = true := hi
      rw [this]; simp)]
    exact hs
theorem kit_ownT {K : PySem.W.Frag} {C : Addr} {T : String} {b : Bool} (hm : PySem.W.kitMeta T = true) (hs : PySem.W.subIn K (.ref C) (.type T) = some b) : PySem.W.kitOne K (.ref C) (.type T) = some b := by
  unfold PySem.W.kitOne PySem.W.kitCls
  rw [if_neg (by simp)]
  show (if PySem.W.kitMeta T = true then _ else _) = _
  rw [if_pos hm]
  exact hs
end My
set_option maxRecDepth 100000
set_option maxHeartbeats 1000000
/-! own exceptions whose __init__ says super().__init__(text) and then stores its fields -/
namespace My
open PySem PySem.Spec PyProof.Rows L2
/-- the names of such a def: its parameters are local, nothing is a cell, __class__ alone is free -/
structure SupScope (N ps : List Str) (sc : Scope) : Prop where
  kind : sc.kind = .function
  co : sc.isCoroutine = false
  gen : sc.isGenerator = false
  nd : ps.Nodup
  eqN : N = ps
  par : ∀ x ∈ ps, sc.names.lookup x = some .local
  nocell : ∀ y ∈ sc.names, y.2 ≠ .cell
  free : ∀ y ∈ sc.names, y.2 = .free → y.1 = "__class__"
  ks : sc.names.lookup ("super" : Str) = some .globalImplicit
  kc : sc.names.lookup ("__class__" : Str) = some .free
/-- the context of its body -/
def cxSup (CX : CXT) (P : Program) (w : World) (K : PySem.W.Frag) (mg : Str → Option Value) (base : Heap) (N : List Str) (qual : Str) (scope : Scope) (f : Addr) (cd : Value) (cc : Addr) (A : Around) (outer : List Env) (s : Shared) (H : Hp) (E : XK) : Cx where
  prog := P
  w := w
  K := K
  mg := mg
  base := base
  A := A.deeper (PySem.W.ksEnv qual scope s.heap.objs.size f cd cc)
  N := N
  s_0 := s
  H_0 := H
  env := PySem.W.ksEnv qual scope s.heap.objs.size f cd cc
  outer := outer
  stack := PySem.W.ksEnv qual scope s.heap.objs.size f cd cc :: outer
  ex := []
  calm := true
  fn := fun _ => false
  pn := []
  xe := fun e s' => wpAny (model P w) (A.deeper (PySem.W.ksEnv qual scope s.heap.objs.size f cd cc)) (leaving (PySem.W.ksEnv qual scope s.heap.objs.size f cd cc) e) (fun _ s'' => CX outer H s E e s'') (fun e' s'' => CX outer H s E e' s'') s'
theorem lookup_of_mem {l : List (Str × Value)} {y : Str} {u : Value} (nd : (l.map (·.1)).Nodup) (h : (y, u) ∈ l) : l.lookup y = some u := by
  induction l with
  | nil => cases h
  | cons p r ih =>
    obtain ⟨z, v⟩ := p
    rw [List.map_cons, List.nodup_cons] at nd
    rcases List.mem_cons.mp h with e | e
    · cases e; simp [List.lookup]
    · have hne : y ≠ z := fun q => nd.1 (by rw [← q]; exact List.mem_map.mpr ⟨_, e, rfl⟩)
      have : (y == z) = false := by simpa using hne
      simp only [List.lookup, this]
      exact ih nd.2 e
theorem map_fst_zip_sub : ∀ (ps : List Str) (us : List Value), ((ps.zip us).map (·.1)).Sublist ps
  | [], _ => by simp
  | _ :: _, [] => by simp
  | p :: ps, u :: us => by simpa using map_fst_zip_sub ps us
theorem nd_rev {l : List Str} (h : l.Nodup) : l.reverse.Nodup := by
  induction l with
  | nil => simp
  | cons a t ih =>
    rw [List.nodup_cons] at h
    rw [List.reverse_cons, List.nodup_append]
    exact ⟨ih h.2, by simp, fun x hx y hy e => h.1 (by simp at hy; rw [← hy, ← e]; simpa using hx)⟩
theorem zip_lookup {ps : List Str} {us : List Value} {i : Nat} {y : Str} {u : Value} (nd : ps.Nodup) (h1 : ps[i]? = some y) (h2 : us[i]? = some u) : (ps.zip us).reverse.lookup y = some u := by
  refine lookup_of_mem ?_ ?_
  · rw [List.map_reverse]
    have : ((ps.zip us).map (·.1)).Nodup := by
      exact nd.sublist (map_fst_zip_sub ps us)
    exact nd_rev this
  · rw [List.mem_reverse]
    have : (ps.zip us)[i]? = some (y, u) := by rw [List.getElem?_zip_eq_some]; exact ⟨h1, h2⟩
    exact List.mem_of_getElem? this
section
variable {CX : CXT} {P : Program} {w : World} {K : PySem.W.Frag} {mg : Str → Option Value} {base : Heap} {N ps : List Str} {qual : Str} {scope : Scope} {f cc : Addr} {cd : Value} {A : Around} {outer : List Env} {s : Shared} {H : Hp} {E : XK}
theorem env_cells {x : Str} {c : Addr} {L : Addr} (h : (PySem.W.ksEnv qual scope L f cd cc).cells.lookup x = some c) : x = "__class__" ∧ c = cc := by
  have h' : ([(("__class__" : Str), cc)] : List (Str × Addr)).lookup x = some c := h
  by_cases e : x = "__class__"
  · subst e
    simp [List.lookup] at h'
    exact ⟨rfl, h'.symm⟩
  · have : (x == ("__class__" : Str)) = false := by simpa using e
    simp [List.lookup, this] at h'
theorem inv_sup {us : List Value} {vs : List V} {h1 : Heap} {t : Nat} {cl : Value} {cld : Option Addr} {cv : Option Value} {csl : Array (Option Value)} (S : SupScope N ps scope) (hd : A.handled = none) (e0 : Env0 P w K mg base A outer s H) (hl : vs.length = ps.length) (r : Vals vs us)
    (hcell : K.lookup cc = some ⟨cl, cld, .cell cv, csl⟩)
    (hns : h1.Ns s.heap.objs.size (fun x => (ps.zip us).reverse.lookup x)) (hk : ∀ b o, s.heap.get? b = some o → h1.get? b = some o) :
    Inv (cxSup CX P w K mg base N qual scope f cd cc A outer s H E) [] (L2.start N vs) H { s with heap := h1, toks := t } := by
  have noA : ∀ b : Addr, b ∉ (cxSup CX P w K mg base N qual scope f cd cc A outer s H E).ex := fun b z => absurd (show b ∈ ([] : List Addr) from z) (by simp)
  have hcb := e0.mod.kin _ _ hcell
  refine ⟨⟨e0.mod, S.kind, rfl, rfl, Nat.le_refl _, fun y z c h1 h2 => (env_cells h1).1.trans (env_cells h2).1.symm, fun y hy => ?_, fun y c h _ => absurd h Bool.false_ne_true, fun _ => hd, Around.frames_deeper e0.frames, .inr ⟨rfl, rfl⟩, fun b z => absurd z (noA b), e0.bs, e0.bsz, fun b _ _ => noA b, fun b z => absurd z (noA b), e0.funs, e0.frf⟩,
    rfl, e0.bare, Un.kept hk, ⟨_, hns, fun i y v h1 h2 h3 => ?_⟩, fun y c h => ?_, e0.hok.fresh (Nat.le_refl _), fun y c h => ?_, fun p hp => absurd (show p ∈ ([] : List (Addr × Obj)) from hp) (by simp), e0.hok.kept hk, ?_⟩
  · have hy : scope.names.lookup y = some .cell ∨ scope.names.lookup y = some .free := hy
    rcases hy with hy | hy
    · exact absurd rfl (S.nocell _ (PySem.mem_of_lookup hy))
    · have e := S.free _ (PySem.mem_of_lookup hy) rfl
      refine ⟨cc, ?_⟩
      show ([(("__class__" : Str), cc)] : List (Str × Addr)).lookup y = some cc
      have e' : y = "__class__" := e
      rw [e']
      simp [List.lookup]
  · have hlen : N.length = vs.length := by rw [S.eqN, hl]
    have e2 : L2.start N vs = vs.map some := by unfold L2.start; rw [hlen, Nat.sub_self]; simp
    rw [e2, List.getElem?_map] at h2
    cases ea : vs[i]? with
    | none => rw [ea] at h2; cases h2
    | some a =>
      rw [ea] at h2
      cases h2
      obtain ⟨u, hu, rv⟩ := r.get ea
      have hp : ps[i]? = some y := by rw [← S.eqN]; exact h1
      exact ⟨u, rv, .inl ⟨S.par y (List.mem_of_getElem? hp), zip_lookup S.nd hp hu⟩⟩
  · obtain ⟨rfl, rfl⟩ := env_cells h
    exact ⟨cv, _, hk _ _ (e0.bs _ _ hcb).1, rfl⟩
  · obtain ⟨rfl, rfl⟩ := env_cells h
    exact (e0.bs _ _ hcb).2
  · unfold L2.start
    show _ = N.length
    rw [List.length_append, List.length_map, List.length_replicate, S.eqN]
    omega
end
open PySem.W (ksFn ksEnv)
/-- what the written part says of such a class -/
structure SupCls (P : Program) (K : PySem.W.Frag) (mg : Str → Option Value) (C : Addr) : Prop where
  cd : ∃ cd, PySem.W.clsIn K C = some cd
  mro : PySem.W.mroIn K C (.ref C) = some true
  sup : PySem.W.ks_superIn K C C "__init__" = some (some (.builtin "ValueError.__init__"))
  opq : PySem.W.nsIn K PySem.cStatics "thirdparty.any" = some none
  ve : PySem.W.subIn K (.ref C) (.type "ValueError") = some true
  mgs : mg "super" = none
  top : (P.main.scope.names.lookup ("super" : Str)).isSome = false
  ox : OexC K C
/-- and of its __init__ -/
structure SupFn (P : Program) (K : PySem.W.Frag) (st : Stmt) (qual : Str) (C f : Addr) (fd : FuncData) : Prop where
  ex : ∃ (oc : Value) (od : Option Addr) (kV doc pm : Value) (an : Option Addr) (cda : Addr) (ct : Value) (cc : Addr) (sl : Array (Option Value)),
    fd = ksFn "__init__" qual (defArgs st) (defBody st) (defScope st) .none kV doc pm an (.ref cda) ct cc ∧ K.lookup f = some ⟨oc, od, .func fd, sl⟩ ∧ PySem.W.codeIn K (.ref cda) qual = true ∧
    (∃ (a : Value) (b : Option Addr) (vs : Array Value) (d : Array (Option Value)) (file : Str) (tf : Tok), K.lookup cda = some ⟨a, b, .fields vs, d⟩ ∧ vs[2]? = some (.str file tf) ∧ ((P.main.file : Str) == file) = true) ∧
    ∃ (a : Value) (b : Option Addr) (d : Array (Option Value)), K.lookup cc = some ⟨a, b, .cell (some (.ref C)), d⟩
section
variable {CX : CXT} {P : Program} {w : World} {K : PySem.W.Frag} {mg : Str → Option Value} {base : Heap} {N ps : List Str} {qual : Str} {scope : Scope} {f cc cda C a : Addr} {A : Around} {outer : List Env} {s0 : Shared} {H0 : Hp} {E : XK}
variable {oc : Value} {od : Option Addr} {fd : FuncData} {sl : Array (Option Value)} {vs : Array Value} {file : Str} {tf : Tok}
theorem mw_call {X : Cx} {pins : List (Addr × Obj)} {σ : L2.St} {H : Hp} {s : Shared} {u : Addr} {us : List Value} {Q : Value → Shared → Prop} {B : Around} {EE : Value → Shared → Prop} (T : OexC X.K C) (I : Inv X ((u, PySem.W.kxs_mw "ValueError.__init__" a) :: pins) σ H s)
    (ea : H a = some (exo a C none)) (hz : us.length ≤ sizeLine) (q : ∀ s', Inv X ((u, PySem.W.kxs_mw "ValueError.__init__" a) :: pins) σ H s' → Q .none s') :
    wpAny (model X.prog X.w) B (call (.ref u) us) Q EE s := by
  obtain ⟨nm, q0, N0, bs, bm, sn, sub, ab, col, dd, k0, k1, k2, k3, k5, hC, hbm⟩ := T.cls
  obtain ⟨t1, ho⟩ := exo_at I.hok ea
  have hu := ClX.pin_at I
  have KX := I.kIn
  have eu : upd H a (exo a C none) = H := by
    funext b
    by_cases hb : b = a
    · rw [hb, upd_same, ea]
    · rw [upd_ne hb]
  have T1 : (Value.type "method-wrapper" == Value.type "method" || Value.type "method-wrapper" == Value.type "builtin_function_or_method" || Value.type "method-wrapper" == Value.type "method-wrapper") = true := by decide
  obtain ⟨hp, g, d, t, os⟩ := s
  refine wpAny_call (codeAny_of_tree ?_)
  show wpAny _ _ (callAny (.ref u) ⟨us, []⟩) _ _ _
  unfold callAny
  refine wpAny_bind (wpAny_load hu ?_)
  simp only [PySem.W.kxs_mw, T1, if_true]
  refine PySem.W.KFB.if_so (by decide) ?_
  refine wpAny_bind (PySem.W.check_bound_init F.excBase_ValueError.toExcCallFacts (KX _ _ hC) ho rfl ?_)
  refine wpAny_bind (wpAny_pure (wpAny_pure ⟨PySem.plainId_quiet F.excBase_ValueError.init.plain _, codeAny_builtin F.excBase_ValueError.initEntry ?_⟩))
  refine PySem.W.exc_init_tree (cls := .ref C) (t0 := t1) (dv := none) (c2 := .none) (c3 := .none) (b4 := .bool false) ho hz fun h' k e1 _ => ?_
  have J := I.write (t' := t) (x := a) (e := a) (o := exo a C none) (by rw [ea]; exact True.intro) (.inl rfl) k ⟨_, e1⟩ (exo_ok e1)
  rw [eu] at J
  exact q _ J

/-- super().__init__(e, ..) at the head of the body -/
theorem sup_run {an : Option Addr} {kV doc pm ct : Value} {body : List Stmt} {args : Arguments} {σ : L2.St} {H : Hp} {s : Shared} {ta : TA} {e : Expr} {es : List Expr} {p0 p1 p2 p3 p4 : Pos} {ar : Arg} {Q : Flow → Shared → Prop}
    (S : SupScope N ps scope) (D : SupCls P K mg C)
    (lk : K.lookup f = some ⟨oc, od, .func (ksFn "__init__" qual args body scope .none kV doc pm an (.ref cda) ct cc), sl⟩) (har : (args.posonlyargs ++ args.args).head? = some ar)
    (lc : ∃ (a : Value) (b : Option Addr) (vs : Array Value) (d : Array (Option Value)) (file : Str) (tf : Tok), K.lookup cda = some ⟨a, b, .fields vs, d⟩ ∧ vs[2]? = some (.str file tf) ∧ ((P.main.file : Str) == file) = true)
    (lq : ∃ (a : Value) (b : Option Addr) (d : Array (Option Value)), K.lookup cc = some ⟨a, b, .cell (some (.ref C)), d⟩)
    (I : Inv (cxSup CX P w K mg base N qual scope f (.ref cda) cc A outer s0 H0 E) [] σ H s) (h0 : σ[0]? = some (some (.ref a))) (hN : N[0]? = some ar.arg) (hloc : scope.names.lookup ar.arg = some .local)
    (ea : H a = some (exo a C none)) (hes : PA (cxSup CX P w K mg base N qual scope f (.ref cda) cc A outer s0 H0 E) (e :: es) ta)
    {R : Hp → Prop} (q : ta σ H fun us H1 => us.length ≤ 1000 ∧ H1 a = some (exo a C none) ∧ R H1)
    (cont : ∀ H1 s', R H1 → Inv (cxSup CX P w K mg base N qual scope f (.ref cda) cc A outer s0 H0 E) [] σ H1 s' → Q .next s')
    (he : starEach (e :: es) (ksEnv qual scope s0.heap.objs.size f (.ref cda) cc) = (false, eval e (ksEnv qual scope s0.heap.objs.size f (.ref cda) cc)) :: starEach es (ksEnv qual scope s0.heap.objs.size f (.ref cda) cc))
    (hpl : (backTo p3 (starEach es (ksEnv qual scope s0.heap.objs.size f (.ref cda) cc))).any (·.1) = false) 
    (hsw : swapsWith (.Call (.Attribute (.Call (.Name "super" p0) [] [] p1) "__init__" p2) (e :: es) [] p3) none p4.line (ksEnv qual scope s0.heap.objs.size f (.ref cda) cc) = pure false)
    {pl : Sem Bool} (hcall : eval (.Call (.Attribute (.Call (.Name "super" p0) [] [] p1) "__init__" p2) (e :: es) [] p3) (ksEnv qual scope s0.heap.objs.size f (.ref cda) cc) = (do
      let ov ← attributeBase (.Call (.Name "super" p0) [] [] p1) "__init__" (ksEnv qual scope s0.heap.objs.size f (.ref cda) cc) (eval (.Call (.Name "super" p0) [] [] p1) (ksEnv qual scope s0.heap.objs.size f (.ref cda) cc))
      standAt p2.atName
      let (fx, first) ← holding [ov] (getMethod ov "__init__" pl)
      callWith p3 fx first (backTo p3 (starEach (e :: es) (ksEnv qual scope s0.heap.objs.size f (.ref cda) cc))) []))
    (B : List Stmt) :
    PySem.wpAt (model P w) (A.deeper (ksEnv qual scope s0.heap.objs.size f (.ref cda) cc)) (.func B (ksEnv qual scope s0.heap.objs.size f (.ref cda) cc))
      (exec (.Expr (.Call (.Attribute (.Call (.Name "super" p0) [] [] p1) "__init__" p2) (e :: es) [] p3) p4) (ksEnv qual scope s0.heap.objs.size f (.ref cda) cc)) Q (cxSup CX P w K mg base N qual scope f (.ref cda) cc A outer s0 H0 E).xe s := by
  have KX : K.In s.heap := I.kIn
  obtain ⟨t1, hoe⟩ := exo_at I.hok ea
  obtain ⟨m, hn, hl⟩ := I.loc
  obtain ⟨u, ru, look⟩ := hl 0 ar.arg (.ref a) hN h0 (Or.inl hloc)
  obtain rfl : u = Value.ref a := ru
  have hm : m ar.arg = some (.ref a) := by
    rcases look with z | ⟨z, _⟩
    · exact z.2
    · have z : scope.names.lookup ar.arg = some .cell ∨ scope.names.lookup ar.arg = some .free := z
      rw [hloc] at z
      rcases z with z | z <;> cases z
  obtain ⟨c1, c2, vs, c3, file, tf, hcode, hvs, hfile⟩ := lc
  obtain ⟨c4, c5, c6, hcell⟩ := lq
  obtain ⟨cd, hcd⟩ := D.cd
  obtain ⟨mb, hb1, hb2⟩ := I.mod.blt
  obtain ⟨oD, hD1, hD2⟩ : ∃ oD, s.heap.get? C = some oD ∧ oD.data = .cls cd := by
    unfold PySem.W.clsIn at hcd
    split at hcd
    · rename_i ho
      cases hcd
      exact ⟨_, KX _ _ ho, rfl⟩
    · cases hcd
  obtain ⟨hh, g, d, t, os⟩ := s
  refine ks_wpAt_Expr_any ?_ I.quiet hsw
  refine ks_wpAt_MethodCall (he := hcall) ?_
  refine ks_wpAt_super_base (ar := ar) S.ks S.kc rfl rfl (KX _ _ lk) rfl har rfl (KX _ _ hcode) rfl hvs hfile D.top ?_
  refine PySem.W.ks_loadName_global S.kind S.ks (Calls.loadGlobal_builtin (I.mod.glob.keeps I.bk) D.mgs (hb1.keeps I.bk) ((hb2 _ (by decide)).trans PyProof.Rows.Boot.«super») ⟨rfl, ?_⟩)
  refine wpAny_loadName_free S.kind S.kc rfl ⟨_, KX _ _ hcell, rfl⟩ ?_
  refine wpAny_loadName_local S.kind hloc hn hm ?_
  refine ks_wpAny_isType_cls hD1 hD2 ⟨rfl, ?_⟩
  refine ks_wpAny_call_super hD1 hD2 hoe rfl (fun c z => by cases z) (PySem.W.looks_mroIn KX D.mro) (fun h' e1 k => ?_)
  have I1 := ClX.pin_new (t' := t) I k (Nat.le_refl _) e1 (fun v z => by cases z)
  have KX1 : K.In h' := I1.kIn
  have hca : a ≠ C := fun z => by
    subst z
    rw [hoe] at hD1
    cases hD1
    cases hD2
  have hsI : PySem.W.Looks (model P w) h' (isInstance (.ref a) (.type "ValueError")) true := by
    have II : PySem.W.InstAt h' a _ C none := ⟨k _ _ hoe, rfl, rfl, trivial⟩
    exact II.type.andThen (PySem.W.looks_subIn KX1 D.ve)
  have hsup := D.sup
  unfold PySem.W.ks_superIn at hsup
  rw [hcd] at hsup
  refine PySem.W.kxs_getMethod PySem.W.kxs_ValueError e1 (PySem.W.looks_opaque KX1 D.opq) (l₀ := cd.mro) (fun A Q E s k q => wpAny_bind ((PySem.W.looks_clsIn KX1 hcd) A _ E s k (wpAny_pure q))) rfl KX1 hsup hsI hca rfl ?_
  have I2 := ClX.pin_new (t' := t + 1) I1 (h' := h'.push (PySem.W.kxs_mw "ValueError.__init__" a)) (o := PySem.W.kxs_mw "ValueError.__init__" a) (fun b o z => Heap.get?_push_of_some _ z) (Nat.le_refl _) (Heap.get?_push_at rfl rfl) (fun v z => by cases z)
  dsimp only
  rw [he]
  refine PySem.W.kxs_callWith (i := "ValueError.__init__") (x := a) (by show (false || (backTo p3 (starEach es _)).any (·.1)) = false; rw [hpl]; rfl) (Calls.evalArgs_plain ?_)
  have run := hes.run p3 _ _ σ H _ I2 q
  rw [show starEach (e :: es) (cxSup CX P w K mg base N qual scope f (.ref cda) cc A outer s0 H0 E).env = _ from he] at run
  refine thn run fun us s1 ⟨xs, H1, I3, r1, hz, ea1, q1⟩ => ⟨ClX.pin_at I3, ?_⟩
  have hlen : us.length ≤ sizeLine := by
    rw [← Paired.length r1, sizeLine_eq]
    omega
  exact mw_call D.ox I3 ea1 hlen fun s' J => cont _ s' q1 (ClX.unpin (ClX.unpin J))

/-- such an __init__, by what it says behind super() -/
theorem sup_ok {st : Stmt} {fd : FuncData} {k : Nat} {sp : Sp} {body : List Stmt} {e : Expr} {p0 p1 p2 p3 p4 : Pos} {ar : Arg} {pl : Sem Bool} (F : SupFn P K st qual C f fd) (S : SupScope N ps (defScope st)) (D : SupCls P K mg C)
    (hb : defBody st = .Expr (.Call (.Attribute (.Call (.Name "super" p0) [] [] p1) "__init__" p2) [e] [] p3) p4 :: body) (har : ((defArgs st).posonlyargs ++ (defArgs st).args).head? = some ar) (hN : N[0]? = some ar.arg)
    (he : ∀ env : Env, starEach [e] env = [(false, eval e env)])
    (hsw : ∀ env : Env, swapsWith (.Call (.Attribute (.Call (.Name "super" p0) [] [] p1) "__init__" p2) [e] [] p3) none p4.line env = pure false)
    (hcall : ∀ env : Env, eval (.Call (.Attribute (.Call (.Name "super" p0) [] [] p1) "__init__" p2) [e] [] p3) env = (do
      let ov ← attributeBase (.Call (.Name "super" p0) [] [] p1) "__init__" env (eval (.Call (.Name "super" p0) [] [] p1) env)
      standAt p2.atName
      let (fx, first) ← holding [ov] (getMethod ov "__init__" pl)
      callWith p3 fx first (backTo p3 (starEach [e] env)) []))
    (len : ∀ vs H Q E, sp vs H Q E → vs.length = ps.length)
    (hbody : ∀ (cda : Value) (cc : Addr) (A : Around) (outer : List Env) (s : Shared) (H : Hp) (vs : List V) (Q : VK) (E : XK), Room k (A.deeper (ksEnv qual (defScope st) s.heap.objs.size f cda cc)) → sp vs H Q E →
      ∃ (a : Addr) (te : TE) (t : TS), vs[0]? = some (.ref a) ∧ H a = some (exo a C none) ∧ PE (cxSup CX P w K mg base N qual (defScope st) f cda cc A outer s H E) e te ∧ PSs (cxSup CX P w K mg base N qual (defScope st) f cda cc A outer s H E) body t ∧
        te (L2.start N vs) H fun x H1 => [x].length ≤ 1000 ∧ H1 a = some (exo a C none) ∧ t { nx := fun _ H' => Q .non H', rt := Q } (L2.start N vs) H1) : FnOk P w K mg base CX (k + 1) f fd ps sp := by
  obtain ⟨oc, od, kV, doc, pm, an, cda, ct, cc, sl, rfl, lk, hcd, lc, lq⟩ := F.ex
  refine ⟨len, fun A outer s H args us vs Q E hr e0 hbi r hsp => ?_⟩
  have hl := len _ _ _ _ hsp
  have KX : K.In s.heap := e0.mod.kin.keeps fun b o e => (e0.bs b o e).1
  have lim : s.heap.NoLimit := e0.mod.nolimit.keeps fun b o e => (e0.bs b o e).1
  obtain ⟨c4, c5, c6, hcell⟩ := lq
  refine ks_codeAny_call_defAt (body := defBody st) hr.depth (KX _ _ lk) rfl lim (PySem.W.codeRec_of KX hcd) rfl hbi S.nocell (fun ⟨n, v⟩ hy => S.par n (List.of_mem_zip hy).1) (fun h1 hns hk => ?_) S.co S.gen S.kind
  obtain ⟨a, te, t, hv, ea, pe, pss, q⟩ := hbody (.ref cda) cc A outer s H vs Q E (hr.deeper _) hsp
  have I : Inv (cxSup CX P w K mg base N qual (defScope st) f (.ref cda) cc A outer s H E) [] (L2.start N vs) H _ := inv_sup (t := s.toks + (ps.zip us).length) S hr.hd e0 hl r hcell hns hk
  have fin : ∀ {σ' : L2.St} {H' : Hp} {v : V} {u : Value} {s' : Shared}, Inv (cxSup CX P w K mg base N qual (defScope st) f (.ref cda) cc A outer s H E) [] σ' H' s' → RelV v u → Q v H' → CE outer P w H s Q u s' :=
    fun {σ' H' v u s'} J rv q => ⟨v, H', J.os, J.bare, J.base, J.hok, rv, q⟩
  have h0 : (L2.start N vs)[0]? = some (some (V.ref a)) := by
    unfold L2.start
    rw [List.getElem?_append_left (by rw [List.length_map]; exact (List.getElem?_eq_some_iff.mp hv).1), List.getElem?_map, hv]
    rfl
  have hloc : (defScope st).names.lookup ar.arg = some .local := S.par _ (by rw [← S.eqN]; exact List.mem_of_getElem? hN)
  show PySem.wpAt _ _ _ (execs (defBody st) _) _ _ _
  rw [hb]
  refine ks_wpAt_execs_cons ?_
  refine sup_run S D lk har lc ⟨c4, c5, c6, hcell⟩ I h0 hN hloc ea (pa_cons pe pa_nil (he _)) q (fun H1 s1 q1 J => ?_) (he _) rfl (hsw _) (hcall _) _
  refine wpAt_of_wpAny (wpAny_mono (pss.run [] s1 (L2.start N vs) H1 _ J q1) (fun fl s' hs => ?_) fun e s' hs => hs)
  cases fl with
  | ret u =>
    obtain ⟨v, σ', H', J, rv, q⟩ := hs
    exact fin J rv q
  | next =>
    obtain ⟨σ', H', J, q⟩ := hs
    exact fin (v := V.non) (u := Value.none) J rfl q
  | brk =>
    obtain ⟨_, _, _, q⟩ := hs
    exact False.elim q
  | cont =>
    obtain ⟨_, _, _, q⟩ := hs
    exact False.elim q
end
end My
set_option maxRecDepth 100000
set_option maxHeartbeats 1000000
namespace My
open PySem PySem.Spec PyProof.Rows L2
/-! ### max(x, default=d) of a list of whole numbers -/
theorem ints_reads {h : Heap} : ∀ {ns : List Int} {us : List Value}, Vals (ns.map V.int) us → ReadsAll h us (ns.map PyData.int) []
  | [], _, .nil => .nil
  | n :: ns, _, .cons r t => by
    obtain ⟨tk, rfl⟩ := r
    exact ReadsAll.cons (as := []) (bs := []) (.int n tk) (ints_reads t)
theorem alike_ints (ns : List Int) : PySem.W.AlikeAll (ns.map PyData.int) := by
  refine ⟨fun x hx y hy => ?_, fun x hx => ?_⟩
  · obtain ⟨i, _, rfl⟩ := List.mem_map.mp hx
    obtain ⟨j, _, rfl⟩ := List.mem_map.mp hy
    rfl
  · obtain ⟨i, _, rfl⟩ := List.mem_map.mp hx
    exact fun z => nomatch z
theorem depth_ints : ∀ ns : List Int, PyData.depthAll (ns.map PyData.int) ≤ 1
  | [] => by simp [PyData.depthAll]
  | n :: ns => by
    have := depth_ints ns
    simp only [List.map_cons, PyData.depthAll, PyData.depth]
    omega
theorem foldl_max (ns : List Int) : ∀ n : Int, (ns.foldl max n ∈ n :: ns) ∧ ∀ y ∈ n :: ns, y ≤ ns.foldl max n := by
  induction ns with
  | nil => intro n; simp
  | cons k r ih =>
    intro n
    obtain ⟨h1, h2⟩ := ih (max n k)
    rw [List.foldl_cons]
    refine ⟨?_, fun y hy => ?_⟩
    · rcases List.mem_cons.mp h1 with e | e
      · rw [e]
        rcases Int.le_total n k with z | z
        · rw [Int.max_eq_right z]; simp
        · rw [Int.max_eq_left z]; simp
      · exact List.mem_cons_of_mem _ (List.mem_cons_of_mem _ e)
    · have hm := h2 (max n k) List.mem_cons_self
      rcases List.mem_cons.mp hy with e | e
      · rw [e]; omega
      · rcases List.mem_cons.mp e with e | e
        · rw [e]; omega
        · exact h2 y (List.mem_cons_of_mem _ e)
section
variable {X : Cx}
def rMaxDf (K : PySem.W.Frag) : List V → List V → Hp → VK → Prop := fun xs zs H Q => ∃ (a : Addr) (ns : List Int) (d : Int), xs = [.ref a] ∧ zs = [.int d] ∧ SqL K H a (ns.map V.int) ∧
  (ns = [] → Q (.int d) H) ∧ ∀ m, m ∈ ns → (∀ y ∈ ns, y ≤ m) → Q (.int m) H
theorem call_maxDf (hc : X.calm = true) (hu : X.A.units + 10 < cLine) : CallRK X (.builtin "max") ["default"] (rMaxDf X.K) := by
  intro pins s σ H xs zs us ws Q I r rz h
  obtain ⟨a, ns, d, rfl, rfl, hq, h0, h1⟩ := h
  obtain rfl := Vals.ref1 r
  obtain ⟨w, rfl, rw'⟩ := rz.one
  obtain ⟨its, rv, pl, hz⟩ := I.list hq
  have hd := depth_ints ns
  refine PySem.W.max_list_default (I.ok.hd hc) pl.isList (xs := ns.map PyData.int) (as := []) (by rw [List.toList_toArray]; exact ints_reads rv) (alike_ints ns) (by show X.A.units + 1 + _ < _; omega) (fun e h' tk k => ?_) fun y ys i v h' tk bs e hv rd k => ?_
  · exact ⟨.int d, H, I.kept (t' := tk) k, rw', h0 (List.map_eq_nil_iff.mp e)⟩
  · cases ns with
    | nil => cases e
    | cons n ns =>
      rw [List.map_cons] at e
      obtain ⟨rfl, rfl⟩ := List.cons.inj e
      rw [PySem.W.maxD_ints] at rd
      obtain ⟨t0, rfl, _⟩ := reads_int_inv rd
      obtain ⟨m1, m2⟩ := foldl_max ns n
      exact ⟨.int (ns.foldl max n), H, I.kept (t' := tk) k, ⟨_, rfl⟩, h1 _ m1 m2⟩
/-! ### isinstance(e, c) of a caught error with fields -/
theorem call_isExD {a : Addr} {oe : Obj} {cls : Value} {d : Option Addr} {pn : List (Addr × Obj)} (hz : Zc cls d oe) (hf : ∃ vs, oe.data = .fields vs) :
    CallR (X.suite a ((a, oe) :: pn)) (.builtin "isinstance") (fun xs H Q => ∃ D dd fs, cls = .ref D ∧ d = some dd ∧ H dd = some (.xd fs) ∧ ExcC X.K D ∧ rIsE X.K D a xs H Q) := by
  intro pins s σ H xs us Q I r h
  obtain ⟨D, dd, fs, rfl, rfl, hd, C, c, cv, b, rfl, hcv, e, q⟩ := h
  cases r with
  | cons rx rr =>
    cases rr with
    | cons rt rr =>
      cases rr
      cases rx
      have ec := hcv _ rt
      subst ec
      obtain ⟨hget, _⟩ := I.pin (a, oe) (List.mem_append.mpr (.inl List.mem_cons_self))
      obtain ⟨vs, hv⟩ := hf
      have hx : ObjOk X.prog X.w H s.heap dd (.xd fs) := I.hok dd _ hd
      obtain ⟨mA, ⟨od, es, ep, ho, _⟩, _⟩ := hx
      have J : PySem.W.InstAt s.heap a oe D (some od) := ⟨hget, hz.1, by unfold PySem.W.notCls; rw [hv] <;> rfl, by rw [hz.2]; exact ho⟩
      obtain ⟨cdD, hcD, _⟩ := PySem.W.any_some C.hd
      refine PySem.W.kia_one (PySem.W.kitx_exc (od := some od) (by rw [hcD]; rfl) C.hg C.hk C.hs C.ha C.hn C.ht C.hm) I.kIn J e (fun z => nomatch z) fun tk => ⟨.bl b, H, I.kept (t' := tk) fun _ _ z => z, rfl, q⟩
end
/-! ### what such a class has, by a check -/
theorem tail_refs : ∀ {l : List Value}, PySem.W.excTail [.type "ValueError", .type "Exception", .type "BaseException", .type "object"] l = true → PySem.HandSPX.refsVE l = true := by
  intro l
  induction l with
  | nil => intro h; revert h; decide
  | cons a t ih =>
    intro h
    cases a <;> first | exact ih h | exact h
theorem oex_of {K : PySem.W.Frag} {C : Addr} (q : PySem.W.excInitIn K C [.type "ValueError", .type "Exception", .type "BaseException", .type "object"] "ValueError.__new__" = true) (hd : PySem.W.hasDictIn K C = true)
    (sa : PySem.W.findIn K (.ref C) "__setattr__" = some (some (.builtin "object.__setattr__"))) (bp : PySem.W.subIn K (.ref C) (.type "BaseException") = some true) (tp : PySem.W.typeIn K (.ref C) = some (.type "type")) (kp : PySem.W.keepIn K (.ref C) = true) : OexC K C := by
  refine ⟨?_, sa, bp, tp, kp⟩
  unfold PySem.W.excInitIn at q
  split at q
  · rename_i dd cd sl ho
    split at q
    · rename_i C' bm k0 k1 k2 k3 n k5 hm hs
      simp only [Bool.and_eq_true, beq_iff_eq, Bool.not_eq_true'] at q
      obtain ⟨⟨⟨e1, e2⟩, hdel⟩, ht⟩ := q
      subst e1
      subst e2
      obtain ⟨cd1, hc1, hd1⟩ := PySem.W.any_some hd
      have ec : PySem.W.clsIn K C' = some cd := by unfold PySem.W.clsIn; rw [ho]
      rw [ec] at hc1
      cases hc1
      obtain ⟨nm, bs, mro, ns, qn, hdc, sn, sub, ab, col, del⟩ := cd
      dsimp only at hm hdel hd1
      subst hm
      subst hdel
      subst hd1
      have hsl : sl = #[k0, k1, k2, k3, some (.builtin "ValueError.__new__"), k5] := by
        obtain ⟨l⟩ := sl
        simp only at hs
        rw [hs]
      subst hsl
      exact ⟨nm, qn, ns, bs, bm, sn, sub, ab, col, dd, k0, k1, k2, k3, k5, ho, tail_refs ht⟩
    · cases q
  · cases q
/-! ### the promises of such an __init__ -/
/-- one field -/
def spX1 (C : Addr) (f : Str) (P : V → Prop) : Sp := fun vs H Q _ => ∃ (a : Addr) (y : V), vs = [.ref a, y] ∧ P y ∧ H a = some (exo a C none) ∧ ∀ d, H d = none → d ≠ a → Q .non (upd (upd H d (exd d [(f, y)])) a (exo a C (some d)))
def smallI (y : V) : Prop := ∃ i : Int, y = .int i ∧ i.natAbs < 1000000
theorem small_log {i : Int} (h : i.natAbs < 1000000) : i.natAbs.log2 < 1920 := by
  rcases Nat.eq_zero_or_pos i.natAbs with e | e
  · rw [e]; decide
  · exact Nat.lt_of_lt_of_le ((Nat.log2_lt (by omega)).mpr (Nat.lt_of_lt_of_le h (by decide : 1000000 ≤ 2 ^ 20))) (by decide)
end My
set_option maxRecDepth 100000
set_option maxHeartbeats 1000000
namespace My
open PySem PySem.Spec PyProof.Rows L2
/-! ### iter(t) of a tuple; list(o), o's class with its own __iter__ (a tuple's iterator) and its own __len__ -/
/-- a tuple's iterator at it, over the tuple at l, the next place i -/
def TitO (l it : Addr) (i : Nat) : HO := .ext fun h => h.IsTupleIter it l i
/-- at it stands something -/
def AnyO (it : Addr) : HO := .ext fun h => ∃ o, h.get? it = some o
theorem titO_ok {P : Program} {w : World} {H : Hp} {h : Heap} {l it : Addr} {i : Nat} (e : h.IsTupleIter it l i) : ObjOk P w H h it (TitO l it i) :=
  ⟨e, ⟨_, e.choose_spec.1⟩, fun h1 h2 q k => let ⟨o, ho, r⟩ := q; ⟨o, k _ ho, r⟩⟩
theorem anyO_ok {P : Program} {w : World} {H : Hp} {h : Heap} {it : Addr} (e : ∃ o, h.get? it = some o) : ObjOk P w H h it (AnyO it) := ⟨e, e, fun h1 h2 q k => let ⟨o, ho⟩ := q; ⟨o, k _ ho⟩⟩
section
variable {X : Cx} {pins : List (Addr × Obj)} {σ : L2.St} {H : Hp} {s : Shared} {l it S : Addr} {i : Nat}
theorem titO_get (I : Inv X pins σ H s) (e : H it = some (TitO l it i)) : s.heap.IsTupleIter it l i := (I.hok it _ e).1
theorem call_iterT : CallR X (.builtin "iter") (fun xs H Q => ∃ (l : Addr) (zs : List V), xs = [.ref l] ∧ SqT X.K H l zs ∧ ∀ it, H it = none → Q (.ref it) (upd H it (TitO l it 0))) := by
  intro pins s σ H xs us Q I r h
  obtain ⟨l, zs, rfl, hq, q⟩ := h
  obtain rfl := Vals.ref1 r
  obtain ⟨its, rv, pl, hz⟩ := I.tuple hq
  refine Calls.call_function_entry (by decide +kernel) (by decide +kernel) PySem.W.kdk_entry_iter (PySem.W.kdk_args_iter _) ?_
  unfold Builtin.«iter»
  refine wpAny_bind (m := someArgs "iter" 1 2 _) (wpAny_of_eq (a := [Value.ref l]) (by first | rfl | kernel_rfl!) ?_)
  show wpAny _ _ (pyIter (.ref l) >>= _) _ _ _
  refine wpAny_bind (wpAny_pyIter_tuple (show s.heap.IsTuple l its.toArray from pl) (wpAny_pure ⟨_, rfl, ?_⟩))
  exact ⟨.ref s.heap.objs.size, _, I.laid (t' := s.toks) (fun b u e => Heap.get?_push_of_some _ e) (Nat.le_refl _) (titO_ok ⟨_, Heap.get?_push_size _ rfl, rfl, rfl⟩), rfl, q _ (I.hok.fresh (Nat.le_refl _))⟩
/-- the end of a tuple's iterator; its record stays -/
theorem tup_end {prog : Program} {w : World} {A : Around} {E : Value → Shared → Prop} {items : Array Value} {Q : Option Value → Shared → Prop} (hh : A.handled = none) (hit : s.heap.IsTupleIter it l i) (ht : s.heap.IsTuple l items) (hx : items[i]? = none)
    (hQ : ∀ h', (∀ b o, b ≠ it → s.heap.get? b = some o → h'.get? b = some o) → (∃ o, h'.get? it = some o) → Q none { s with heap := h' }) : wpAny (model prog w) A (pyNext (.ref it)) Q E s := by
  obtain ⟨o, ho, hc, hd⟩ := id hit
  obtain ⟨ol, hol, _, nl, hdl⟩ := ht
  have hup := Heap.get?_update_self (Obj.mapFields (·.setIfInBounds 0 Value.none)) ho (Obj.isFreed_of_fields (Obj.data_mapFields hd _))
  unfold pyNext
  refine wpAny_bind (wpAny_attempt (wpAny_callSpecial?_slot (name := Str.ofString "__next__") hit.typeIs PySem.F.slot_tuple_iterator_next (wpAny_call_entry PySem.F.slot_tuple_iterator_next hit.typeIs PySem.F.entry_tuple_iterator_next ?_ (PySem.F.args_tuple_iterator_next_1 _))))
  show wpAny _ _ (field (.ref it) 0 >>= _) _ _ s; refine wpAny_bind (wpAny_field ho hd (x := .ref l) rfl ?_); show wpAny _ _ (if (Value.ref l == Value.none) = true then _ else _) _ _ s
  rw [if_neg (fun z => by revert z; exact Bool.false_ne_true : ¬ ((Value.ref l == Value.none) = true))]; show wpAny _ _ (field (.ref it) 1 >>= _) _ _ s
  refine wpAny_bind (wpAny_field ho hd (x := .int i 0) rfl ?_); show wpAny _ _ (seqItems? (.ref l) >>= _) _ _ s
  refine wpAny_bind (wpAny_seqItems hol hdl ?_)
  simp only [Int.toNat_natCast, hx]
  refine wpAny_bind (wpAny_rule (wpAny_bind (wpAny_setField ho hd (by simp) ?_))); show wpAny _ _ (newExc (.type "StopIteration") [] >>= _) _ _ _
  refine wpAny_bind ?_
  simp only [newExc, newTuple]
  refine wpAny_bind (wpAny_newObj_type ?_ (by size_fits)); refine wpAny_bind (m := firstArgMember _ _) (wpAny_of_eq (a := Value.none) (by first | rfl | (simp only [firstArgMember]; rfl)) ?_)
  refine wpAny_newObj_type ?_ (by size_fits)
  simp only [raiseNew]
  refine wpAny_bind (wpAny_handled ?_)
  first | rw [show A.in1.handled = none from hh] | rw [hh]
  refine wpAny_bind (wpAny_pure (wpAny_throw ?_))
  refine wpAny_bind (wpAny_isInstance (T := "StopIteration") (b := true) ⟨_, Heap.get?_push_size _ rfl, rfl⟩ isSubtype_stop (wpAny_pure (hQ _ (fun b ob hb e => ?_) ⟨_, Heap.get?_push_of_some _ (Heap.get?_push_of_some _ hup)⟩)))
  exact Heap.get?_push_of_some _ (Heap.get?_push_of_some _ ((Heap.get?_update_other _ _ (Ne.symm hb)).trans e))
/-- list.extend over it -/
theorem tit_loop {A1 : Around} {ys : List V} {Rs : Result → Shared → Prop} (hh : A1.handled = none) :
    ∀ (k i : Nat) (H : Hp) (s : Shared), ys.length - i = k → i ≤ ys.length → Inv X pins σ H s → H it = some (TitO l it i) → H l = some (.tup ys) → H S = some (.lst (ys.take i)) → ys.length < sizeLine →
      (∀ H2 s2, Inv X pins σ H2 s2 → (∀ b, b ≠ it → b ≠ S → H2 b = H b) → H2 S = some (.lst ys) → Rs (.ok (.ret .none)) s2) → codeAny (model X.prog X.w) A1 (.builtin "list.extend.loop" ⟨[.ref S, .ref it, .none], []⟩) Rs s := by
  intro k
  induction k with
  | zero =>
    intro i H s hk hi I h1 h2 h3 hz hR
    have hne : S ≠ it := ne_of h3 h1 (fun z => nomatch z)
    obtain ⟨its, rv, pl, _⟩ := I.tuple (SqT.of h2)
    refine codeAny_builtin PySem.F.entry_extend_loop ?_
    rw [Around.under_plainId PySem.F.plain_extend_loop _]
    show wpAny _ A1.in1 (pyNext (.ref it) >>= _) _ _ s
    have hno : (its.toArray)[i]? = none := by
      have := rv.length
      rw [List.getElem?_toArray, List.getElem?_eq_none_iff]
      omega
    refine wpAny_bind (tup_end hh (titO_get I h1) (show s.heap.IsTuple l its.toArray from pl) hno fun h' k' e' => wpAny_pure ?_)
    have J := I.write (t' := s.toks) (x := it) (e := it) (o := AnyO it) (by rw [h1]; exact True.intro) (.inl rfl) k' e' (anyO_ok e')
    refine hR _ _ J (fun b hb _ => upd_ne hb) ?_
    rw [upd_ne hne, h3, List.take_of_length_le (by omega)]
  | succ k ih =>
    intro i H s hk hi I h1 h2 h3 hz hR
    have hne : S ≠ it := ne_of h3 h1 (fun z => nomatch z)
    have hln : l ≠ it := ne_of h2 h1 (fun z => nomatch z)
    have hlS : l ≠ S := ne_of h2 h3 (fun z => nomatch z)
    obtain ⟨its, rv, pl, _⟩ := I.tuple (SqT.of h2)
    have hlen := rv.length
    have hlt : i < ys.length := by omega
    obtain ⟨u, hu, ru⟩ := rv.get (i := i) (x := ys[i]) (by simp [hlt])
    refine codeAny_builtin PySem.F.entry_extend_loop ?_
    rw [Around.under_plainId PySem.F.plain_extend_loop _]
    show wpAny _ A1.in1 (pyNext (.ref it) >>= _) _ _ s
    refine wpAny_bind (wpAny_pyNext_tuple_item (titO_get I h1) (show s.heap.IsTuple l its.toArray from pl) (x := u) (by rw [List.getElem?_toArray]; exact hu) fun h' hit hs => ?_)
    have J := I.write (t' := s.toks) (x := it) (e := it) (o := TitO l it (i + 1)) (by rw [h1]; exact True.intro) (.inl rfl) (fun b o hb e => hs.extBut b o hb e) ⟨_, hit.choose_spec.1⟩ (titO_ok hit)
    have h3' : upd H it (TitO l it (i + 1)) S = some (.lst (ys.take i)) := by rw [upd_ne hne]; exact h3
    show wpAny _ A1.in1 (updateSeq S (·.push u) >>= _) _ _ _
    obtain ⟨z, its3, n3, r3, hl3, e3⟩ := J.lstM h3'
    have hl4 : its3.length = i := by rw [← hl3, List.length_take]; omega
    refine wpAny_bind (wpAny_updateSeq e3 rfl (wpAny_pure ⟨plainId_quiet PySem.F.plain_extend_loop _, ?_⟩) (by rw [List.size_toArray]; omega) (by show (its3.toArray.push u).size ≤ sizeLine + 1; rw [Array.size_push, List.size_toArray]; omega))
    have et : ys.take (i + 1) = ys.take i ++ [ys[i]] := by rw [List.take_succ]; simp [hlt]
    have J2 := J.lset (f := (·.push u)) (its' := its3 ++ [u]) (t' := s.toks) (ys := ys.take (i + 1)) h3' e3 (by simp) (by rw [et]; exact r3.append (.cons ru .nil)) (by rw [List.length_take]; omega)
    refine ih (i + 1) _ _ (by omega) hlt J2 ?_ ?_ upd_same hz fun H2 s2 I2 k2 e2 => hR H2 s2 I2 (fun b hb hc => ?_) e2
    · rw [upd_ne (Ne.symm hne), upd_same]
    · rw [upd_ne hlS, upd_ne hln]; exact h2
    · rw [k2 b hb hc, upd_ne hc, upd_ne hb]
/-- what such a class must have -/
structure ItL (K : PySem.W.Frag) (C fi fl : Addr) : Prop where
  it : PySem.W.findIn K (.ref C) "__iter__" = some (some (.ref fi))
  itF : PySem.W.isFn K (.ref fi) = true
  ln : PySem.W.findIn K (.ref C) "__len__" = some (some (.ref fl))
  lnF : PySem.W.isFn K (.ref fl) = true

/-- list(o): its __iter__ gives a tuple's iterator, its __len__ a number -/
def rLstIt (C : Addr) (spI spL : Sp) (EI EL : XK) : List V → Hp → VK → Prop := fun xs H Q => ∃ a dx fs, xs = [.ref a] ∧ H a = some (.ins C dx fs) ∧ ∀ q, H q = none → q ≠ a →
  spI [.ref a] (upd H q (.lst [])) (fun v H1 => ∃ it l ys, v = .ref it ∧ H1 it = some (TitO l it 0) ∧ H1 l = some (.tup ys) ∧ H1 q = some (.lst []) ∧ H1 a = some (.ins C dx fs) ∧ ys.length < sizeLine ∧
    spL [.ref a] H1 (fun n H2 => H2 = H1 ∧ ∃ k : Int, n = .int k ∧ 0 ≤ k ∧ k < 1000) EL ∧ ∀ H2, (∀ b, b ≠ it → b ≠ q → H2 b = H1 b) → H2 q = some (.lst ys) → Q (.ref q) H2) EI
section
variable {X : Cx} {CI : CXT} {n : Nat} {C fi fl : Addr} {fdI fdL : FuncData} {psI psL : List Str} {spI spL : Sp} {EI EL : XK}
theorem call_at0 {f : Addr} {fd : FuncData} {ps : List Str} {sp : Sp} {E : XK} (G0 : FnOk X.prog X.w X.K X.mg X.base CX0 n f fd ps sp) (hb : Binds X.K fd ps []) {A : Around} (hr : Room n A) (hA : A.frames = X.A.frames)
    {pins : List (Addr × Obj)} {s : Shared} {σ : L2.St} {H : Hp} (I : Inv X pins σ H s) {vs : List V} {us : List Value} (r : Vals vs us) {Q : VK} {EE : Value → Shared → Prop} (h : sp vs H Q E) :
    wpAny (model X.prog X.w) A (call (.ref f) us) (EP X pins σ Q) EE s := by
  have e0 : Env0 X.prog X.w X.K X.mg X.base A X.stack s H := by
    have e := I.env0
    exact ⟨by rw [hA]; exact e.frames, e.mod, e.bs, e.bsz, e.funs, e.frf, e.hok, e.bare⟩
  have hl := G0.len _ _ _ _ h
  refine wpAny_call (codeAny_mono (G0.run A X.stack s H ⟨us, []⟩ us vs Q E hr e0 (by
    have := hb s us I.kIn (by rw [List.append_nil, ← r.length]; exact hl)
    simpa using this) r h) fun r s' hq => ?_)
  cases r with
  | error e => exact False.elim hq
  | ok fl =>
    cases fl with
    | ret w => exact I.after hq
    | next => exact False.elim hq
    | brk => exact False.elim hq
    | cont => exact False.elim hq
theorem call_listIt (hc : ItL X.K C fi fl) (FI : FnOk X.prog X.w X.K X.mg X.base CI n fi fdI psI spI) (bI : Binds X.K fdI psI []) (xI : Passes CI X EI)
    (FL : FnOk X.prog X.w X.K X.mg X.base CX0 n fl fdL psL spL) (bL : Binds X.K fdL psL []) (hr : Room (n + 4) X.A) : CallR X (.type "list") (rLstIt C spI spL EI EL) := by
  intro pins s σ H xs us Q I rv h
  obtain ⟨a, dx, fs, rfl, ha, hq⟩ := h
  obtain ⟨u, rfl, ru⟩ := rv.one
  cases ru
  have sb : Sub X (n + 2) X.A.in1.in1 := (Sub.in1 (Sub.in1 (⟨hr, rfl⟩ : Sub X (n + 4) X.A)))
  refine callType_codes (Q₁ := fun obj s₁ => obj = .ref s.heap.objs.size ∧ s₁ = { s with heap := s.heap.push { cls := .type "list", data := .seq #[] } }) PySem.F.called_list (PySem.F.typeCall_list_1 _) PySem.F.entry_list_init (code_list_new _ ⟨rfl, rfl⟩) fun obj s₁ h₁ => ?_
  obtain ⟨rfl, rfl⟩ := h₁
  have hS : (s.heap.push { cls := .type "list", data := .seq #[] }).get? s.heap.objs.size = some { cls := .type "list", data := .seq #[] } := Heap.get?_push_size _ rfl
  refine ⟨⟨_, hS, rfl⟩, PySem.F.args_list_init_2 _ _, ?_⟩
  have fr : H s.heap.objs.size = none := I.hok.fresh (Nat.le_refl _)
  have sp0 := hq _ fr (fun z => by rw [z, ha] at fr; cases fr)
  have I1 : Inv X pins σ (upd H s.heap.objs.size (.lst [])) { s with heap := s.heap.push { cls := .type "list", data := .seq #[] } } := I.lnew (its := []) (t' := s.toks) .nil (Nat.zero_le _)
  show wpAny _ _ (do let old ← Builtin.List.listItems (.ref s.heap.objs.size); Builtin.List.listUpdate (.ref s.heap.objs.size) (fun _ => #[]); letGo old.toList.reverse; Builtin.List.listExtendWith (.ref s.heap.objs.size) (.ref a) .none) _ _ _
  refine wpAny_bind ?_
  unfold Builtin.List.listItems
  refine wpAny_bind (wpAny_seqItems hS rfl (wpAny_pure ?_))
  show wpAny _ _ (updateSeq s.heap.objs.size (fun _ => #[]) >>= fun _ => letGo (#[] : Array Value).toList.reverse >>= fun _ => Builtin.List.listExtendWith (.ref s.heap.objs.size) (.ref a) .none) _ _ _
  refine wpAny_bind (wpAny_updateSeq hS rfl ?_)
  have I2 := I1.lset (f := fun _ => #[]) (its := []) (its' := []) (ys := []) (t' := s.toks) upd_same hS rfl .nil (Nat.zero_le _)
  rw [upd_upd] at I2
  refine wpAny_bind (wpAny_letGo ?_)
  have ha2 : upd H s.heap.objs.size (.lst []) a = some (.ins C dx fs) := by rw [upd_ne (ne_of_none ha fr)]; exact ha
  have hne : s.heap.objs.size ≠ a := fun z => by rw [z, ha] at fr; cases fr
  generalize hq0 : s.heap.objs.size = q at *
  generalize hH0 : upd H q (.lst []) = H0 at *
  obtain ⟨mA, J, _⟩ := ins_get I2.hok ha2
  obtain ⟨od, J, _⟩ := J.look
  obtain ⟨m0, hF⟩ := I2.fr
  unfold Builtin.List.listExtendWith
  refine wpAny_bind (J.type.here ?_)
  have h1 : Builtin.List.listSameRef (.ref q) (.ref a) = false := by simp [Builtin.List.listSameRef, hne]
  simp only [h1, (rfl : (Value.ref C == Value.type "list") = false), (rfl : (Value.ref C == Value.type "tuple") = false), Bool.or_false, Bool.false_eq_true, if_false]
  refine wpAny_bind (PySem.W.owit_iter hF I2.ok.mod.kin J hc.it hc.itF ?_)
  refine wpAny_mono (call_at FI bI xI (A := X.A.in1.in1) (sb.mono (by omega)).room sb.fr I2 (vs := [.ref a]) (.cons rfl .nil) sp0) (fun v s3 z => ?_) fun _ _ z => z
  obtain ⟨x, H1, I3, r3, it, l, ys, ex, e1, e2, e3, e4, hz, q1, q2⟩ := z
  subst ex
  obtain rfl : v = Value.ref it := r3
  have hit := titO_get I3 e1
  unfold PySem.W.OwitIt
  refine wpAny_specialOf (show s3.TypeIs (.ref it) "tuple_iterator" from hit.typeIs) PySem.F.slot_tuple_iterator_next.lookup ?_
  show wpAny _ _ _ _ _ s3
  refine wpAny_bind (wpAny_holding ?_)
  obtain ⟨mB, J3, _⟩ := ins_get I3.hok e4
  obtain ⟨od3, J3, _⟩ := J3.look
  obtain ⟨m3, hF3⟩ := I3.fr
  unfold Builtin.List.listLengthHint
  refine wpAny_bind (wpAny_bind (J3.type.here ((PySem.W.looks_findIn I3.kIn hc.ln).here ?_)))
  refine PySem.W.KFB.if_not rfl ?_
  refine PySem.W.KFB.if_so rfl ?_
  refine wpAny_bind (wpAny_rule (wpAny_bind (wpAny_attempt ?_)))
  refine PySem.W.len_K hF3 I3.ok.mod.kin J3 hc.ln hc.lnF (wpAny_mono (call_at0 FL bL (A := X.A.in1.in1.in1) (Sub.in1 (sb.mono (show n + 1 ≤ n + 2 by omega))).room sb.fr I3 (vs := [.ref a]) (.cons rfl .nil) q1) (fun v s4 z => ?_) fun _ _ z => z)
  obtain ⟨x, H2, I4, r4, eH, k0, ek, hk0, hk1⟩ := z
  subst ek
  subst eH
  obtain ⟨tk4, rfl⟩ := r4
  refine ⟨⟨hk0, by omega⟩, ?_⟩
  refine wpAny_bind (wpAny_of_eq (a := some k0) rfl ?_)
  show wpAny _ _ (if Builtin.List.listTooLong k0.toNat = true then _ else _) _ _ _
  refine PySem.W.KFB.if_not (notLongL (by rw [sizeLine_eq]; omega)) (wpAny_pure ?_)
  have I5 := I4.tok (s4.toks + 1)
  have hne1 : q ≠ it := ne_of e3 e1 (fun z => nomatch z)
  have go : ∀ s5, Inv X pins σ H2 s5 → codeAny (model X.prog X.w) X.A.in1 (.builtin "list.extend.loop" ⟨[.ref q, .ref it, .none], []⟩) (wants (fun r s₂ => r = .none ∧ EP X pins σ Q (.ref q) s₂) X.xe) s5 := fun s5 I6 =>
    tit_loop (A1 := X.A.in1) (Rs := wants (fun r s₂ => r = .none ∧ EP X pins σ Q (.ref q) s₂) X.xe) (show X.A.in1.handled = none from hr.hd) ys.length 0 H2 s5 (by omega) (Nat.zero_le _) I6 e1 e2 (by rw [List.take_zero]; exact e3) hz fun H7 s7 I7 k7 e7 => ⟨rfl, .ref q, H7, I7, rfl, q2 H7 k7 e7⟩
  refine wpAny_ite_split (fun _ => ?_) (fun _ => wpAny_pure ⟨plainId_quiet PySem.F.plain_extend_loop _, go _ I5⟩)
  refine wpAny_bind (wpAny_rule (wpAny_bind ?_))
  show wpAny _ _ (updateSeq q (·.push .none) >>= fun _ => updateSeq q (·.pop)) _ _ _
  obtain ⟨z, its, n5, r5, hl5, e5⟩ := I5.lstM e3
  cases r5
  refine wpAny_bind (wpAny_updateSeq e5 rfl ?_)
  have I6 := I5.lset (f := (·.push Value.none)) (its' := [Value.none]) (ys := [.non]) (t' := s4.toks + 1) e3 e5 (by simp) (.cons rfl .nil) (by rw [List.length_singleton, sizeLine_eq]; decide)
  obtain ⟨z6, its6, n6, r6, hl6, e6⟩ := I6.lstM upd_same
  obtain ⟨u6, rfl, ru6⟩ := r6.one
  refine wpAny_updateSeq e6 rfl (wpAny_pure ⟨plainId_quiet PySem.F.plain_extend_loop _, go _ ?_⟩) (by show 1 ≤ sizeLine; rw [sizeLine_eq]; decide) (by show 0 ≤ sizeLine + 1; exact Nat.zero_le _)
  have I7 := I6.lset (f := (·.pop)) (its := [u6]) (its' := []) (ys := []) (t' := s4.toks + 1) upd_same e6 (by rfl) .nil (Nat.zero_le _)
  rw [upd_upd] at I7
  have hH : upd H2 q (.lst []) = H2 := by
    funext b
    by_cases hb : b = q
    · rw [hb, upd_same, e3]
    · rw [upd_ne hb]
  rw [hH] at I7
  exact I7
end
end
end My
set_option maxRecDepth 100000
set_option maxHeartbeats 2000000
namespace My
open PySem PySem.Spec PyProof.Rows L2
/-! ### enumerate(t), t a tuple -/
theorem enum_new1 {v : Value} {o : Obj} {G : Heap → Prop} (B : Begins v o G) :
    Meets (Builtin.«enumerate.__new__» ⟨[.type "enumerate", v], []⟩) (fun _ R s => G s.heap ∧
      R (.ok (.ret (.ref (s.heap.push o).objs.size))) { s with heap := (s.heap.push o).push { cls := .type "enumerate", data := .fields #[.none, .bool false, .ref s.heap.objs.size, rawInt 0, .none, .none] } }) := by
  refine .of_wp fun prog w A R s h => ?_
  obtain ⟨hp, g, d, tk, os⟩ := s
  obtain ⟨h1, h⟩ := h
  have hsub := sub_enumerate
  have goB : ∀ {A' : Around} {E Q : Value → Shared → Prop}, Q (.ref hp.objs.size) ⟨hp.push o, g, d, tk, os⟩ → wpAny (model prog w) A' (pyIter v) Q E ⟨hp, g, d, tk, os⟩ := fun q => B.iter prog w _ _ ⟨hp, g, d, tk, os⟩ _ h1 q
  wp_walk using goB
  refine wpAny_stack_any fun st => wpAny_pure ?_
  split
  · rename_i c _ _ _ _ _
    cases (c == Value.type "enumerate") <;> (wp_walk using goB; exact ⟨_, rfl, h⟩)
  · wp_walk using goB
    exact ⟨_, rfl, h⟩
theorem call_enum1 {prog : Program} {w : World} {A : Around} {E : Value → Shared → Prop} {s : Shared} {v : Value} {o : Obj} {G : Heap → Prop} {Q : Value → Shared → Prop} (B : Begins v o G) (h1 : G s.heap)
    (h : ∀ h', IsEnum h' (s.heap.objs.size + 1) s.heap.objs.size 0 .none → h'.get? s.heap.objs.size = some o → (∀ b o, s.heap.get? b = some o → h'.get? b = some o) → Q (.ref (s.heap.objs.size + 1)) { s with heap := h' }) :
    wpAny (model prog w) A (call (.type "enumerate") [v]) Q E s := by
  refine callType_new PySem.F.called_enumerate (by decide) (PySem.F.typeCall_enumerate_1 _) (PySem.F.newCall_enumerate_1 _) (fun obj => PySem.F.args_object_init_2 obj _) PySem.F.entry_enumerate_new (enum_new1 B) ⟨h1, ?_⟩
  have hz : (s.heap.push o).objs.size = s.heap.objs.size + 1 := Heap.size_push ..
  show _ ∧ _
  rw [hz]
  have he : IsEnum ((s.heap.push o).push { cls := .type "enumerate", data := .fields #[.none, .bool false, .ref s.heap.objs.size, rawInt 0, .none, .none] }) (s.heap.objs.size + 1) s.heap.objs.size 0 .none := by
    have q := Heap.get?_push_size (s.heap.push o) (o := { cls := .type "enumerate", data := .fields #[.none, .bool false, .ref s.heap.objs.size, rawInt 0, .none, .none] }) rfl
    rwa [hz] at q
  exact ⟨⟨_, he, rfl⟩, h _ he (Heap.get?_push_of_some _ (Heap.get?_push_size _ B.free)) fun b o x => Heap.get?_push_of_some _ (Heap.get?_push_of_some _ x)⟩
def IteT (K : PySem.W.Frag) (a : Addr) : It :=
  ⟨fun i H => ∃ (xs : List V) (x : V), SqT K H a xs ∧ xs[i]? = some x, fun i H v H' => ∃ T x, v = .ref T ∧ H T = none ∧ H' = upd H T (.tup [.int (i : Nat), x]) ∧ ∀ xs, SqT K H a xs → xs[i]? = some x, fun i H => ∃ xs : List V, SqT K H a xs ∧ xs.length ≤ i⟩
theorem turn_enumT {P : Program} {w : World} {K : PySem.W.Frag} {elts : List Expr} {kk : Nat} {tpos : Pos} (a e it : Addr) (hae : a ≠ e) (hai : a ≠ it) :
    Turn P w K (.Tuple elts kk tpos) (IteT K a) [e, it] e (fun i h => (∃ old, IsEnum h e it ((i : Nat) : Int) old) ∧ h.IsTupleIter it a i ∧ e ≠ it) where
  mem := by simp
  obj := fun i h st b hb => by
    obtain ⟨⟨old, he⟩, ⟨o, ho, hc, hd⟩, _⟩ := st
    have e' : b = e ∨ b = it := by simpa using hb
    rcases e' with z | z
    · rw [z]; exact ⟨_, he, fun v q => nomatch q⟩
    · rw [z]; exact ⟨o, ho, fun v q => by rw [hd] at q; cases q⟩
  keep := fun i h h' st k => let ⟨⟨old, he⟩, hi, hne⟩ := st; ⟨⟨old, k e (by simp) _ he⟩, hi.at fun o q => k it (by simp) o q, hne⟩
  item := by
    intro X hP hw hK hc i pins s σ H E I hf st hg
    subst hP hw hK
    obtain ⟨⟨old, he⟩, hit, hne⟩ := st
    obtain ⟨xs, x, hq, hx⟩ := hg
    obtain ⟨its, rv, p, hz⟩ := I.tuple hq
    obtain ⟨u, hu, ru⟩ := rv.get hx
    have hel : e < s.heap.objs.size := Heap.lt_size he
    have hil : it < s.heap.objs.size := by obtain ⟨_, q, _⟩ := hit; exact Heap.lt_size q
    have hlt : i < its.toArray.size := by rw [List.size_toArray]; exact (List.getElem?_eq_some_iff.mp hu).1
    refine wpAny_pyNext_enum_itemD (Draws.tuple (A := X.A.in1) (show X.A.in1.handled = none from I.ok.hd hc) it a hai its.toArray) he ⟨hit, p⟩ hlt hne (by simp [hne, Ne.symm hae]) fun x1 h' tk px ho st' hT hsz hk => ?_
    obtain ⟨hit', _⟩ := st'
    have ex1 : x1 = u := by
      rw [List.getElem?_toArray, hu] at px
      exact (Option.some.inj px).symm
    subst ex1
    refine ⟨_, rfl, wpAny_letOwnedTupleGo_enum (s := { s with heap := h', toks := tk + 1 }) ho fun h'' he' sb => ?_⟩
    have hT2 : h''.get? s.heap.objs.size = some { cls := .type "tuple", data := .seq #[.int i tk, x1] } := (sb.2 _ (Nat.ne_of_gt hel)).trans hT
    have new : ObjOk X.prog X.w (upd H s.heap.objs.size (.tup [.int (i : Nat), x])) h'' s.heap.objs.size (.tup [.int (i : Nat), x]) :=
      ⟨by show 2 ≤ sizeLine; decide, [.int i tk, x1], .cons ⟨_, rfl⟩ (.cons ru .nil), ⟨_, hT2, rfl, _, rfl⟩⟩
    have I1 : Inv X pins σ (upd H s.heap.objs.size (.tup [.int (i : Nat), x])) { s with heap := h'', toks := tk + 1 } :=
      I.turnedNew (ch := [e, it]) (fun b ob hb q => (sb.2 b (fun z => hb (by simp [z]))).trans (hk b ob (fun z => hb (by simp [z])) (fun z => hb (by simp [z])) q)) hf (Nat.le_refl _) new
    refine ⟨.ref s.heap.objs.size, _, I1, rfl, ⟨_, x, rfl, I.hok.fresh (Nat.le_refl _), rfl, fun ys hy => by rw [I.tuple_inj hy hq]; exact hx⟩, ⟨⟨x1, ?_⟩, hit'.at fun o q => (sb.2 it (Ne.symm hne)).trans q, hne⟩, fun b hb => ?_⟩
    · rw [show ((i + 1 : Nat) : Int) = (i : Int) + 1 by omega]; exact he'
    · have hb' : b < s.heap.objs.size := by
        rcases (by simpa using hb : b = e ∨ b = it) with z | z
        · rw [z]; exact hel
        · rw [z]; exact hil
      rw [upd_ne (Nat.ne_of_lt hb')]; exact (hf b hb).1
  done := by
    intro X hP hw hK hc i pins s σ H E I hf st hg
    subst hP hw hK
    obtain ⟨⟨old, he⟩, hit, hne⟩ := st
    obtain ⟨xs, hq, hx⟩ := hg
    obtain ⟨its, rv, p, hz⟩ := I.tuple hq
    obtain ⟨f0, f1, f2, f3, f4, f5⟩ := hf it (by simp)
    have hl := rv.length
    have hno : (its.toArray)[i]? = none := by rw [List.getElem?_toArray, List.getElem?_eq_none_iff]; omega
    have D : Draws X.prog X.w X.A.in1 it [it, a] i (fun _ _ => True) (fun j h => j = i ∧ h.IsTupleIter it a i ∧ h.IsTuple a its.toArray) :=
      ⟨fun _ _ st => ⟨_, st.2.1.choose_spec.1⟩, fun _ _ _ st hk => ⟨st.1, st.2.1.at fun o q => hk it (by simp) o q, st.2.2.at fun o q => hk a (by simp) o q⟩,
        fun j s Q E hj st _ => absurd st.1 (Nat.ne_of_lt hj), fun s Q E st hE => wpAny_nextOf_tuple_end (show X.A.in1.handled = none from I.ok.hd hc) st.2.1 st.2.2 hno hE⟩
    exact wpAny_pyNext_enum_endD D he ⟨rfl, hit, p⟩ fun h' eb => ⟨rfl, I.turned (t' := s.toks) (fun b o hb q => eb b o hb q) f0 f1 f3 f4 f5⟩
  self := fun A i s Q E st h => let ⟨⟨_, he⟩, _⟩ := st; wpAny_pyIter_enum he h
def iEnumT (K : PySem.W.Frag) (ta : TA) : TI := fun σ H R => ta σ H fun vs H1 => ∃ a xs, vs = [.ref a] ∧ SqT K H1 a xs ∧ R (IteT K a) H1
theorem pi_enumT {X : Cx} {e : Expr} {ta : TA} {p pos tpos : Pos} {elts : List Expr} {kk : Nat} (hg : Gl X "enumerate") (hm : X.mg "enumerate" = none) (ha : PA X [e] ta) (hs : starEach [e] X.env = [(false, eval e X.env)] := by rfl) :
    PI X (.Tuple elts kk tpos) (.Call (.Name "enumerate" p) [e] [] pos) (iEnumT X.K ta) := by
  refine ⟨fun pins s σ H R I h => ?_⟩
  refine Call_ (ld_blt I hg hm boot_enumerate (PyProof.Rows.callWith_type1 (thn (ha.run pos pins s σ H _ I h) fun us s1 ⟨vs, H1, I1, r1, a, xs, ex, hq, q⟩ => ?_) hs rfl))
  subst ex
  obtain rfl := Vals.ref1 r1
  obtain ⟨its, rv, p', hz⟩ := I1.tuple hq
  have hal : a < s1.heap.objs.size := by obtain ⟨_, z, _⟩ := p'; exact Heap.lt_size z
  refine call_enum1 (begins_tuple a its.toArray) (show s1.heap.IsTuple a its.toArray from p') fun h' he hit hk => wpAny_pyIter_enum he ?_
  have I2 : Inv X pins σ H1 { s1 with heap := h' } := I1.kept (t' := s1.toks) hk
  refine ⟨s1.heap.objs.size + 1, [s1.heap.objs.size + 1, s1.heap.objs.size], _, _, H1, rfl, I2, turn_enumT a (s1.heap.objs.size + 1) s1.heap.objs.size (Nat.ne_of_lt (Nat.lt_succ_of_lt hal)) (Nat.ne_of_lt hal), ⟨⟨.none, he⟩, ⟨_, hit, rfl, rfl⟩, Nat.succ_ne_self _⟩, fun b hb => ?_, q⟩
  have hle : s1.heap.objs.size ≤ b := by
    rcases (by simpa using hb : b = s1.heap.objs.size + 1 ∨ b = s1.heap.objs.size) with z | z
    · rw [z]; exact Nat.le_add_right _ _
    · rw [z]; exact Nat.le_refl _
  exact I1.fpOk hle (I1.hok.fresh hle)
theorem walk_enumT {K : PySem.W.Frag} {a : Addr} {xs : List V} : Walk (IteT K a) xs.length (fun H => SqT K H a xs) (YPair (fun i => some (.int (i : Nat))) (fun i => xs[i]?)) := by
  refine ⟨fun i _ hi q => ⟨xs, xs[i], q, by simp [hi]⟩, fun _ q => ⟨xs, q, Nat.le_refl _⟩, fun i H v H' _ q y => ?_⟩
  obtain ⟨T, x, h1, h2, h3, h4⟩ := y
  exact ⟨T, .int (i : Nat), x, h1, h2, h3, rfl, h4 xs q⟩
end My
set_option maxRecDepth 100000
namespace My
open PySem L2
section
variable {X : Cx}
/-- xs.count(y), flat items -/
def rCntF (K : PySem.W.Frag) : V → List V → Hp → VK → Prop := fun x xs H Q => ∃ (a : Addr) (ys : List V) (y : V), x = .ref a ∧ xs = [y] ∧ SqL K H a ys ∧ flatV y = true ∧ ys.all flatV = true ∧ Q (.int (ys.countP (fun z => eqV z y) : Nat)) H
theorem count_eqU {y : V} : ∀ {ys : List V} {us : List Value}, Vals ys us → ys.all flatV = true → us.countP (eqU y) = ys.countP (fun z => eqV z y)
  | _, _, .nil, _ => rfl
  | z :: ys, u :: us, .cons r t, f => by
    rw [List.all_cons, Bool.and_eq_true] at f
    rw [List.countP_cons, List.countP_cons, count_eqU t f.2, eqU_of r f.1]
theorem mt_fcount : MtR X "list.count" (rCntF X.K) := by
  intro pins s σ H x xs v us Q I rx rxs h
  obtain ⟨a, ys, y, rfl, rfl, hs, fy, fys, q⟩ := h
  cases rx
  cases rxs with
  | cons ry rt =>
    rename_i uy ut
    cases rt
    obtain ⟨its, rv, ⟨⟨cls, dd, data, sl⟩, n, ho, hc, hdn, hd⟩, hlen⟩ := I.list hs
    simp only at hc hd
    subst hc hd
    refine call_meets PySem.F.slot_list_count ⟨_, ho, rfl⟩ PySem.F.entry_list_count (PySem.F.args_list_count_2 _ _)
      (SeqAt.list_countAt a its.toArray n dd sl uy (eqU y)) ⟨ho, fun u' hu' => mem_eqAt ry fy rv fys u' (by simpa using hu'), ?_⟩
    have ec : its.toArray.toList.countP (eqU y) = ys.countP (fun z => eqV z y) := count_eqU rv fys
    refine ⟨.int (ys.countP (fun z => eqV z y) : Nat), H, I.tok _, ⟨s.toks, ?_⟩, q⟩
    rw [← ec]
end
end My
/-! The two readers of a form's text, as functions on lists of signs. -/
namespace My7
inductive Fm where
  | name (z : List Nat)
  | node (firm : Bool) (ps : List Fm)
def letter (c : Nat) : Bool := decide (97 ≤ c ∧ c ≤ 122)
def opener (c : Nat) : Bool := c == 40 || c == 91
def closer (c : Nat) : Bool := c == 41 || c == 93
/-- open pieces: the outermost parts, then the pieces that stand open, the innermost first -/
structure Sk where
  base : List Fm
  open_ : List (Bool × List Fm)
def Sk.put (s : Sk) (f : Fm) : Sk := match s.open_ with
  | [] => { s with base := s.base ++ [f] }
  | (k, ps) :: r => { s with open_ := (k, ps ++ [f]) :: r }
def Sk.push (s : Sk) (c : Nat) : Sk := { s with open_ := (c == 91, []) :: s.open_ }
/-- a closer: the innermost piece, its kind and its number of parts -/
def Sk.close (s : Sk) (c : Nat) : Option Sk := match s.open_ with
  | [] => none
  | (k, ps) :: r => if k = (c == 93) ∧ (if k then 3 else 2) ≤ ps.length then some ({ s with open_ := r }.put (.node k ps)) else none
/-- the law's reader -/
structure La where
  sk : Sk
  cur : List Nat
  names : List (List Nat)
  ended : Bool
def La.flush (s : La) : La := if s.cur = [] then s else { sk := s.sk.put (.name s.cur), cur := [], names := s.names ++ [s.cur], ended := true }
def La.put (s : La) (c : Nat) : Option La :=
  if opener c = true ∧ s.ended = false then some { s with sk := s.sk.push c, ended := false }
  else if closer c = true ∧ s.ended = true then (s.sk.close c).map fun k => { s with sk := k, ended := true }
  else if c = 32 ∧ s.ended = true ∧ s.sk.open_ ≠ [] then some { s with ended := false }
  else none
def La.step (s : La) (c : Nat) : Option La :=
  if letter c = true then (if s.ended = true then none else some { s with cur := s.cur ++ [c] })
  else s.flush.put c
def La.run (s : La) : List Nat → Option La
  | [] => some s
  | c :: r => (s.step c).bind fun t => t.run r
def namesOk (ns : List (List Nat)) : Prop := (∀ z ∈ ns, z.length ≤ 8) ∧ ns.Nodup ∧ ns.length ≤ 12
instance (ns : List (List Nat)) : Decidable (namesOk ns) := by unfold namesOk; infer_instance
def one (s : Sk) : Option Fm := match s.open_, s.base with
  | [], [f] => some f
  | _, _ => none
def La.fin (s : La) : Option Fm := if namesOk s.flush.names then one s.flush.sk else none
theorem La.run_app (s : La) (a b : List Nat) : s.run (a ++ b) = (s.run a).bind fun t => t.run b := by
  induction a generalizing s with
  | nil => rfl
  | cons c r ih =>
    show (s.step c).bind _ = ((s.step c).bind _).bind _
    cases s.step c with
    | none => rfl
    | some t => exact ih t
/-- the program's reader -/
structure Pr where
  sk : Sk
  names : List (List Nat)
def Pr.closes (s : Sk) : List Nat → Option Sk
  | [] => some s
  | c :: r => (s.close c).bind fun t => Pr.closes t r
def pushes (s : Sk) (o : List Nat) : Sk := o.foldl Sk.push s
def isName (z : List Nat) : Bool := decide (1 ≤ z.length) && (decide (z.length ≤ 8) && z.all letter)
/-- a word: openers, a name, closers -/
def parts (w : List Nat) : List Nat × List Nat × List Nat :=
  let a := w.dropWhile opener
  let b := (a.reverse.dropWhile closer).reverse
  (w.takeWhile opener, b, a.drop b.length)
def Pr.word (s : Pr) (w : List Nat) : Option Pr :=
  let (o, z, c) := parts w
  if isName z = true ∧ z ∉ s.names ∧ s.names.length ≠ 12 then
    (Pr.closes ((pushes s.sk o).put (.name z)) c).map fun k => ⟨k, s.names ++ [z]⟩
  else none
def Pr.words (s : Pr) : List (List Nat) → Option Pr
  | [] => some s
  | w :: r => (s.word w).bind fun t => t.words r
def Pr.fin (s : Pr) : Option Fm := one s.sk
/-- the shape of a word -/
theorem parts_eq (w : List Nat) : w = (parts w).1 ++ ((parts w).2.1 ++ (parts w).2.2) := by
  unfold parts
  dsimp only
  have h : ∀ a : List Nat, a = (a.reverse.dropWhile closer).reverse ++ a.drop (a.reverse.dropWhile closer).reverse.length := fun a => by
    have e : a.reverse = a.reverse.takeWhile closer ++ a.reverse.dropWhile closer := List.takeWhile_append_dropWhile.symm
    have e2 : a = (a.reverse.dropWhile closer).reverse ++ (a.reverse.takeWhile closer).reverse := by
      rw [← List.reverse_append, ← e, List.reverse_reverse]
    conv => rhs; rhs; rhs; rw [e2]
    rw [List.drop_left]
    exact e2
  rw [← h, List.takeWhile_append_dropWhile]
theorem parts_open (w : List Nat) : ∀ c ∈ (parts w).1, opener c = true := fun c hc => by
  have := List.all_takeWhile (l := w) (p := opener)
  rw [List.all_eq_true] at this
  exact this c hc
theorem parts_close (w : List Nat) : ∀ c ∈ (parts w).2.2, closer c = true := by
  unfold parts
  dsimp only
  generalize w.dropWhile opener = a
  have e : a.reverse = a.reverse.takeWhile closer ++ a.reverse.dropWhile closer := List.takeWhile_append_dropWhile.symm
  have e2 : a = (a.reverse.dropWhile closer).reverse ++ (a.reverse.takeWhile closer).reverse := by
    rw [← List.reverse_append, ← e, List.reverse_reverse]
  have e3 : a.drop (a.reverse.dropWhile closer).reverse.length = (a.reverse.takeWhile closer).reverse := by
    conv => lhs; rhs; rw [e2]
    rw [List.drop_left]
  rw [e3]
  intro c hc
  have := List.all_takeWhile (l := a.reverse) (p := closer)
  rw [List.all_eq_true] at this
  exact this c (List.mem_reverse.mp hc)
theorem parts_last (w : List Nat) {x : Nat} (h : (parts w).2.1.getLast? = some x) : closer x = false := by
  unfold parts at h
  dsimp only at h
  rw [List.getLast?_reverse] at h
  have := List.head?_dropWhile_not (p := closer) (l := (w.dropWhile opener).reverse)
  rw [h] at this
  simpa using this
theorem parts_first (w : List Nat) {x : Nat} {r : List Nat} (h : (parts w).2.1 = x :: r) : opener x = false := by
  have e := parts_eq w
  have hd := List.head?_dropWhile_not (p := opener) (l := w)
  have : w.dropWhile opener = (parts w).2.1 ++ (parts w).2.2 := by
    have e2 := List.takeWhile_append_dropWhile (p := opener) (l := w)
    have e3 : (parts w).1 = w.takeWhile opener := rfl
    rw [e3] at e
    exact List.append_cancel_left (e2.trans e)
  rw [this, h] at hd
  simpa using hd
end My7
namespace My7
theorem let_open {c : Nat} (h : letter c = true) : opener c = false ∧ closer c = false ∧ c ≠ 32 := by
  unfold letter at h
  have h := of_decide_eq_true h
  unfold opener closer
  refine ⟨?_, ?_, by omega⟩ <;> simp <;> omega
theorem open_let {c : Nat} (h : opener c = true) : letter c = false := by
  cases e : letter c with
  | false => rfl
  | true => rw [(let_open e).1] at h; cases h
theorem close_let {c : Nat} (h : closer c = true) : letter c = false ∧ opener c = false := by
  refine ⟨?_, ?_⟩
  · cases e : letter c with
    | false => rfl
    | true => rw [(let_open e).2.1] at h; cases h
  · unfold closer at h; unfold opener
    simp at h ⊢; omega
theorem flush_nil {s : La} (h : s.cur = []) : s.flush = s := by unfold La.flush; rw [if_pos h]
theorem flush_cur (s : La) : s.flush.cur = [] := by
  by_cases h : s.cur = []
  · rw [flush_nil h]; exact h
  · unfold La.flush; rw [if_neg h]
theorem flush_flush (s : La) : s.flush.flush = s.flush := flush_nil (flush_cur s)
theorem fin_flush (s : La) : s.flush.fin = s.fin := by unfold La.fin; rw [flush_flush]
/-- openers -/
theorem run_open {s : La} (hc : s.cur = []) (he : s.ended = false) : ∀ (o : List Nat), (∀ c ∈ o, opener c = true) → s.run o = some { s with sk := pushes s.sk o } := by
  intro o
  induction o generalizing s with
  | nil => intro _; rfl
  | cons c r ih =>
    intro h
    have h1 := h c List.mem_cons_self
    have e : s.step c = some { s with sk := s.sk.push c } := by
      unfold La.step
      rw [open_let h1, if_neg Bool.false_ne_true, flush_nil hc]
      unfold La.put
      rw [if_pos ⟨h1, he⟩]
      cases s; cases he; rfl
    show (s.step c).bind _ = _
    rw [e]
    exact ih (s := { s with sk := s.sk.push c }) hc he fun d hd => h d (List.mem_cons_of_mem _ hd)
/-- letters -/
theorem run_letters {s : La} (he : s.ended = false) : ∀ (z : List Nat), z.all letter = true → s.run z = some { s with cur := s.cur ++ z } := by
  intro z
  induction z generalizing s with
  | nil => intro _; cases s; simp [La.run]
  | cons c r ih =>
    intro h
    rw [List.all_cons, Bool.and_eq_true] at h
    have e : s.step c = some { s with cur := s.cur ++ [c] } := by
      unfold La.step
      rw [if_pos h.1, he, if_neg Bool.false_ne_true]
    show (s.step c).bind _ = _
    rw [e]
    have := ih (s := { s with cur := s.cur ++ [c] }) he h.2
    show La.run _ r = _
    rw [this]
    simp
/-- closers -/
theorem run_close {s : La} (hc : s.cur = []) (he : s.ended = true) : ∀ (c : List Nat), (∀ x ∈ c, closer x = true) → s.run c = (Pr.closes s.sk c).map fun k => { s with sk := k } := by
  intro c
  induction c generalizing s with
  | nil => intro _; rfl
  | cons x r ih =>
    intro h
    have h1 := h x List.mem_cons_self
    have e : s.step x = (s.sk.close x).map fun k => { s with sk := k } := by
      unfold La.step
      rw [(close_let h1).1, if_neg Bool.false_ne_true, flush_nil hc]
      unfold La.put
      rw [(close_let h1).2, if_neg (fun h => nomatch h.1), if_pos ⟨h1, he⟩]
      cases s; cases he; rfl
    show (s.step x).bind _ = ((s.sk.close x).bind _).map _
    rw [e]
    cases s.sk.close x with
    | none => rfl
    | some k => exact ih (s := { s with sk := k }) hc he fun d hd => h d (List.mem_cons_of_mem _ hd)
/-- a word of a good shape, flushed -/
theorem run_word {s : La} (hc : s.cur = []) (he : s.ended = false) {o z c : List Nat} (ho : ∀ x ∈ o, opener x = true) (hz : z.all letter = true) (hn : z ≠ []) (hcl : ∀ x ∈ c, closer x = true) :
    (s.run (o ++ (z ++ c))).map La.flush = (Pr.closes ((pushes s.sk o).put (.name z)) c).map fun k => ⟨k, [], s.names ++ [z], true⟩ := by
  rw [La.run_app, run_open hc he o ho]
  show (La.run _ (z ++ c)).map _ = _
  rw [La.run_app, run_letters (s := { s with sk := pushes s.sk o }) he z hz]
  show (La.run _ c).map _ = _
  rw [show ({ s with sk := pushes s.sk o } : La).cur ++ z = z by rw [hc]; rfl]
  cases c with
  | nil =>
    show some (La.flush _) = some _
    unfold La.flush
    rw [if_neg hn]
  | cons x r =>
    have h1 := hcl x List.mem_cons_self
    have e : La.step { s with sk := pushes s.sk o, cur := z } x = (((pushes s.sk o).put (.name z)).close x).map fun k => ⟨k, [], s.names ++ [z], true⟩ := by
      unfold La.step
      rw [(close_let h1).1, if_neg Bool.false_ne_true]
      unfold La.flush
      rw [if_neg hn]
      unfold La.put
      rw [(close_let h1).2, if_neg (fun h => nomatch h.1), if_pos ⟨h1, rfl⟩]
    show ((La.step _ x).bind _).map _ = (Option.bind _ _).map _
    rw [e]
    cases ((pushes s.sk o).put (.name z)).close x with
    | none => rfl
    | some k =>
      show (La.run ⟨k, [], s.names ++ [z], true⟩ r).map _ = _
      rw [run_close (s := ⟨k, [], s.names ++ [z], true⟩) rfl rfl r fun d hd => hcl d (List.mem_cons_of_mem _ hd)]
      have e2 : ((some k).bind fun t => Pr.closes t r) = Pr.closes k r := rfl
      rw [e2]
      cases Pr.closes k r with
      | none => rfl
      | some k2 => rfl
/-- after an end within a word only closers may follow -/
theorem run_ended {s : La} (hc : s.cur = []) (he : s.ended = true) : ∀ (r : List Nat), r ≠ [] → 32 ∉ r → (∀ x, r.getLast? = some x → closer x = false) → s.run r = none := by
  intro r
  induction r generalizing s with
  | nil => intro h; exact absurd rfl h
  | cons c r ih =>
    intro _ h32 hl
    show (s.step c).bind _ = none
    unfold La.step
    by_cases h1 : letter c = true
    · rw [if_pos h1, if_pos he]; rfl
    · rw [if_neg h1, flush_nil hc]
      unfold La.put
      rw [if_neg (fun h => by rw [he] at h; cases h.2)]
      by_cases h2 : closer c = true
      · rw [if_pos ⟨h2, he⟩]
        have hr : r ≠ [] := fun e => by
          subst e
          have := hl c rfl
          rw [h2] at this; cases this
        cases s.sk.close c with
        | none => rfl
        | some k =>
          refine ih (s := ⟨k, s.cur, s.names, true⟩) hc rfl hr (fun h => h32 (List.mem_cons_of_mem _ h)) fun x hx => hl x ?_
          rw [List.getLast?_cons]
          rw [hx]; rfl
      · rw [if_neg (fun h => h2 h.1), if_neg (fun h => h32 (by rw [← h.1]; exact List.mem_cons_self))]; rfl
end My7
namespace My7
theorem l32 : letter 32 = false ∧ opener 32 = false ∧ closer 32 = false := by decide
/-- a word of no good shape -/
theorem run_bad {s : La} (hc : s.cur = []) (he : s.ended = false) {w : List Nat} (h32 : 32 ∉ w) (hb : ¬ ((parts w).2.1 ≠ [] ∧ (parts w).2.1.all letter = true)) :
    s.run w = none ∨ ∃ o, s.run w = some { s with sk := pushes s.sk o } := by
  have ew := parts_eq w
  have ho := parts_open w
  have hl := fun x => parts_last w (x := x)
  have hf := fun x r => parts_first w (x := x) (r := r)
  have hcl := parts_close w
  generalize (parts w).1 = o at ew ho
  generalize (parts w).2.1 = z at ew hb hl hf
  generalize (parts w).2.2 = c at ew hcl
  subst ew
  rw [La.run_app, run_open hc he o ho]
  show La.run _ (z ++ c) = none ∨ _
  by_cases hz : z = []
  · subst hz
    cases c with
    | nil => exact .inr ⟨o, rfl⟩
    | cons x r =>
      left
      have h1 := hcl x List.mem_cons_self
      show (La.step _ x).bind _ = none
      unfold La.step
      rw [(close_let h1).1, if_neg Bool.false_ne_true, flush_nil (s := { s with sk := pushes s.sk o }) hc]
      unfold La.put
      rw [(close_let h1).2, if_neg (fun h => nomatch h.1), if_neg (fun h => by rw [show ({ s with sk := pushes s.sk o } : La).ended = s.ended from rfl, he] at h; cases h.2), if_neg (fun h => by
        have := h.1; subst this; rw [l32.2.2] at h1; cases h1)]
      rfl
  · left
    have hall : ¬ z.all letter = true := fun h => hb ⟨hz, h⟩
    obtain ⟨l, x, r, ez, hl1, hx⟩ : ∃ l x r, z = l ++ x :: r ∧ l.all letter = true ∧ letter x = false := by
      have e := List.takeWhile_append_dropWhile (p := letter) (l := z)
      cases ed : z.dropWhile letter with
      | nil =>
        rw [ed, List.append_nil] at e
        exact absurd (by rw [← e]; exact List.all_takeWhile) hall
      | cons x r =>
        have := List.head?_dropWhile_not (p := letter) (l := z)
        rw [ed] at this
        exact ⟨z.takeWhile letter, x, r, by rw [← ed]; exact e.symm, List.all_takeWhile, by simpa using this⟩
    subst ez
    have hx32 : x ≠ 32 := fun e => h32 (by subst e; simp)
    rw [List.append_assoc, La.run_app, run_letters (s := { s with sk := pushes s.sk o }) he l hl1]
    show (La.step _ x).bind _ = none
    unfold La.step
    rw [hx, if_neg Bool.false_ne_true]
    cases l with
    | nil =>
      have hxo := hf x r rfl
      rw [flush_nil (by show s.cur ++ [] = []; rw [hc]; rfl)]
      unfold La.put
      rw [hxo, if_neg (fun h => nomatch h.1), if_neg (fun h => by have h2 : s.ended = true := h.2; rw [he] at h2; cases h2), if_neg (fun h => hx32 h.1)]
      rfl
    | cons a l =>
      unfold La.flush
      rw [if_neg (by show ¬ (s.cur ++ a :: l = []); rw [hc]; exact List.cons_ne_nil _ _)]
      unfold La.put
      rw [if_neg (fun h => nomatch h.2)]
      by_cases h2 : closer x = true
      · rw [if_pos ⟨h2, rfl⟩]
        have hr : r ≠ [] := fun e => by
          subst e
          have := hl x (by rw [List.getLast?_append]; rfl)
          rw [h2] at this; cases this
        have gen : ∀ (kk : Option Sk) (nm : List (List Nat)), ((kk.map fun k => (⟨k, [], nm, true⟩ : La)).bind fun t : La => t.run (r ++ c)) = none := fun kk nm => by
          cases kk with
          | none => rfl
          | some k =>
            show La.run ⟨k, [], nm, true⟩ (r ++ c) = none
            rw [La.run_app, run_ended (s := ⟨k, [], nm, true⟩) rfl rfl r hr (fun h => h32 (by simp [h])) fun y hy => hl y (by
              rw [List.getLast?_append, List.getLast?_cons, hy]; rfl)]
            rfl
        exact gen _ _
      · rw [if_neg (fun h => h2 h.1), if_neg (fun h => hx32 h.1)]; rfl
/-- names stay -/
theorem run_names : ∀ (t : List Nat) {s s' : La}, s.run t = some s' → ∃ m, s'.names = s.names ++ m := by
  intro t
  induction t with
  | nil => intro s s' h; cases h; exact ⟨[], (List.append_nil _).symm⟩
  | cons c r ih =>
    intro s s' h
    have h : (s.step c).bind (fun t => t.run r) = some s' := h
    cases e : s.step c with
    | none => rw [e] at h; cases h
    | some u =>
      rw [e] at h
      obtain ⟨m, hm⟩ := ih h
      have hu : ∃ k, u.names = s.names ++ k := by
        unfold La.step at e
        split at e
        · split at e
          · cases e
          · cases e; exact ⟨[], (List.append_nil _).symm⟩
        · have hfl : ∃ k, s.flush.names = s.names ++ k := by
            by_cases hc : s.cur = []
            · rw [flush_nil hc]; exact ⟨[], (List.append_nil _).symm⟩
            · unfold La.flush; rw [if_neg hc]; exact ⟨_, rfl⟩
          have hp : u.names = s.flush.names := by
            unfold La.put at e
            split at e
            · cases e; rfl
            · split at e
              · cases hk : s.flush.sk.close c with
                | none => rw [hk] at e; cases e
                | some k => rw [hk] at e; cases e; rfl
              · split at e
                · cases e; rfl
                · cases e
          rw [hp]; exact hfl
      obtain ⟨k, hk⟩ := hu
      exact ⟨k ++ m, by rw [hm, hk, List.append_assoc]⟩
theorem namesOk_of {a b : List (List Nat)} (h : namesOk (a ++ b)) : namesOk a :=
  ⟨fun z hz => h.1 z (List.mem_append_left _ hz), (List.nodup_append.mp h.2.1).1, by have := h.2.2; rw [List.length_append] at this; omega⟩
theorem bad_names {s : La} (h : ¬ namesOk s.names) (t : List Nat) : (s.run t).bind La.fin = none := by
  cases e : s.run t with
  | none => rfl
  | some u =>
    obtain ⟨m, hm⟩ := run_names t e
    show La.fin u = none
    unfold La.fin
    rw [if_neg]
    intro ok
    have hfl : ∃ k, u.flush.names = u.names ++ k := by
      by_cases hc : u.cur = []
      · rw [flush_nil hc]; exact ⟨[], (List.append_nil _).symm⟩
      · unfold La.flush; rw [if_neg hc]; exact ⟨_, rfl⟩
    obtain ⟨k, hk⟩ := hfl
    rw [hk, hm, List.append_assoc] at ok
    exact h (namesOk_of ok)
theorem names_more {ns : List (List Nat)} {z : List Nat} (h : namesOk ns) : namesOk (ns ++ [z]) ↔ z.length ≤ 8 ∧ z ∉ ns ∧ ns.length ≠ 12 := by
  unfold namesOk
  have h3 := h.2.2
  constructor
  · rintro ⟨a, b, c⟩
    refine ⟨a z (by simp), fun hz => ?_, ?_⟩
    · rw [List.nodup_append] at b
      exact b.2.2 z hz z (by simp) rfl
    · rw [List.length_append] at c; simp at c; omega
  · rintro ⟨a, b, c⟩
    refine ⟨fun y hy => ?_, ?_, ?_⟩
    · rcases List.mem_append.mp hy with hy | hy
      · exact h.1 y hy
      · rw [List.mem_singleton.mp hy]; exact a
    · rw [List.nodup_append]
      refine ⟨h.2.1, by simp, fun x hx y hy e => ?_⟩
      rw [List.mem_singleton] at hy
      exact b (by rw [← hy, ← e]; exact hx)
    · rw [List.length_append]; simp; omega
end My7
namespace My7
/-- words joined by single spaces -/
def join : List (List Nat) → List Nat
  | [] => []
  | [w] => w
  | w :: v :: r => w ++ 32 :: join (v :: r)
/-! ### what has a part at the outermost place and goes on cannot end well -/
def Much (s : Sk) : Prop := 2 ≤ s.base.length ∨ (1 ≤ s.base.length ∧ s.open_ ≠ [])
theorem Much.one {s : Sk} (h : Much s) : one s = none := by
  unfold My7.one
  split
  · rename_i f h1 h2
    rcases h with h | h
    · rw [h2] at h; simp at h
    · exact absurd h1 h.2
  · rfl
theorem Much.put {s : Sk} (h : Much s) (f : Fm) : Much (s.put f) := by
  unfold Sk.put
  split
  · rename_i e
    rcases h with h | h
    · left; simp; omega
    · exact absurd e h.2
  · rename_i k ps r e
    rcases h with h | h
    · exact .inl h
    · exact .inr ⟨h.1, List.cons_ne_nil _ _⟩
theorem put_some (s : Sk) (f : Fm) (h : 1 ≤ s.base.length) : Much (s.put f) := by
  unfold Sk.put
  split
  · left; simp; omega
  · exact .inr ⟨h, List.cons_ne_nil _ _⟩
theorem close_some {s t : Sk} {c : Nat} (e : s.close c = some t) : ∃ k ps r, s.open_ = (k, ps) :: r ∧ t = ({ s with open_ := r } : Sk).put (.node k ps) := by
  unfold Sk.close at e
  cases h : s.open_ with
  | nil => rw [h] at e; cases e
  | cons p r =>
    obtain ⟨k, ps⟩ := p
    rw [h] at e
    dsimp only at e
    by_cases q : k = (c == 93) ∧ (if k then 3 else 2) ≤ ps.length
    · rw [if_pos q] at e; cases e; exact ⟨k, ps, r, rfl, rfl⟩
    · rw [if_neg q] at e; cases e
theorem Much.close {s t : Sk} {c : Nat} (h : Much s) (e : s.close c = some t) : Much t := by
  obtain ⟨k, ps, r, _, rfl⟩ := close_some e
  have hb : 1 ≤ s.base.length := h.elim (fun h => by omega) fun h => h.1
  exact put_some _ _ hb
theorem Much.closes : ∀ (c : List Nat) {s t : Sk}, Much s → Pr.closes s c = some t → Much t
  | [], s, t, h, e => by cases e; exact h
  | x :: r, s, t, h, e => by
    have e : (s.close x).bind (fun t => Pr.closes t r) = some t := e
    cases e1 : s.close x with
    | none => rw [e1] at e; cases e
    | some u => rw [e1] at e; exact Much.closes r (h.close e1) e
theorem pushes_base : ∀ (o : List Nat) (s : Sk), (pushes s o).base = s.base
  | [], _ => rfl
  | c :: r, s => pushes_base r (s.push c)
theorem word_much {s t : Pr} {w : List Nat} (h : 1 ≤ s.sk.base.length) (e : s.word w = some t) : Much t.sk := by
  unfold Pr.word at e
  dsimp only at e
  split at e
  · generalize hk : Pr.closes _ _ = k at e
    cases k with
    | none => cases e
    | some k =>
      cases e
      refine Much.closes _ (put_some _ _ ?_) hk
      rw [pushes_base]; exact h
  · cases e
theorem words_much : ∀ (ws : List (List Nat)) {s : Pr}, Much s.sk → (s.words ws).bind Pr.fin = none
  | [], s, h => h.one
  | w :: r, s, h => by
    show ((s.word w).bind _).bind _ = none
    cases e : s.word w with
    | none => rfl
    | some t => exact words_much r (word_much (h.elim (fun h => by omega) fun h => h.1) e)
theorem words_base {ws : List (List Nat)} {s : Pr} (h : 1 ≤ s.sk.base.length) (hw : ws ≠ []) : (s.words ws).bind Pr.fin = none := by
  cases ws with
  | nil => exact absurd rfl hw
  | cons w r =>
    show ((s.word w).bind _).bind _ = none
    cases e : s.word w with
    | none => rfl
    | some t => exact words_much r (word_much h e)
/-- something is there after a part was put -/
def Some1 (s : Sk) : Prop := s.open_ ≠ [] ∨ 1 ≤ s.base.length
theorem put_some1 (s : Sk) (f : Fm) : Some1 (s.put f) := by
  unfold Sk.put
  split
  · right; simp
  · exact .inl (List.cons_ne_nil _ _)
theorem closes_some1 : ∀ (c : List Nat) {s t : Sk}, Some1 s → Pr.closes s c = some t → Some1 t
  | [], s, t, h, e => by cases e; exact h
  | x :: r, s, t, h, e => by
    have e : (s.close x).bind (fun t => Pr.closes t r) = some t := e
    cases e1 : s.close x with
    | none => rw [e1] at e; cases e
    | some u =>
      rw [e1] at e
      refine closes_some1 r ?_ e
      obtain ⟨k, ps, r, _, rfl⟩ := close_some e1
      exact put_some1 _ _
/-! ### both readers tell the same -/
theorem word_good {s : Pr} {w : List Nat} (hs : namesOk s.names) (hn : (parts w).2.1 ≠ []) (ha : (parts w).2.1.all letter = true) :
    s.word w = if namesOk (s.names ++ [(parts w).2.1]) then (Pr.closes ((pushes s.sk (parts w).1).put (.name (parts w).2.1)) (parts w).2.2).map fun k => ⟨k, s.names ++ [(parts w).2.1]⟩ else none := by
  unfold Pr.word
  dsimp only
  have hi : (isName (parts w).2.1 = true ∧ (parts w).2.1 ∉ s.names ∧ s.names.length ≠ 12) ↔ namesOk (s.names ++ [(parts w).2.1]) := by
    rw [names_more hs]
    unfold isName
    have hl := List.length_pos_iff.mpr hn
    rw [ha, Bool.and_true, Bool.and_eq_true, decide_eq_true_iff, decide_eq_true_iff]
    constructor
    · rintro ⟨⟨_, a⟩, b, c⟩; exact ⟨a, b, c⟩
    · rintro ⟨a, b, c⟩; exact ⟨⟨hl, a⟩, b, c⟩
  by_cases h : namesOk (s.names ++ [(parts w).2.1])
  · rw [if_pos h, if_pos (hi.mpr h)]
  · rw [if_neg h, if_neg fun q => h (hi.mp q)]
theorem word_bad {s : Pr} {w : List Nat} (hb : ¬ ((parts w).2.1 ≠ [] ∧ (parts w).2.1.all letter = true)) : s.word w = none := by
  unfold Pr.word
  dsimp only
  rw [if_neg]
  rintro ⟨h, _⟩
  unfold isName at h
  rw [Bool.and_eq_true, Bool.and_eq_true, decide_eq_true_iff] at h
  exact hb ⟨fun e => by rw [e] at h; simp at h, h.2.2⟩
theorem map_bind {α β γ : Type} (o : Option α) (f : α → β) (g : β → Option γ) : (o.map f).bind g = o.bind fun a => g (f a) := by cases o <;> rfl
theorem same_words : ∀ (ws : List (List Nat)), ws ≠ [] → (∀ w ∈ ws, 32 ∉ w) → ∀ s : La, s.cur = [] → s.ended = false → namesOk s.names → (s.sk.open_ ≠ [] ∨ s.sk.base = []) →
    (s.run (join ws)).bind La.fin = ((⟨s.sk, s.names⟩ : Pr).words ws).bind Pr.fin := by
  intro ws
  induction ws with
  | nil => intro h; exact absurd rfl h
  | cons w r ih =>
    intro _ h32 s hc he hs hin
    have hw := h32 w List.mem_cons_self
    have ew := parts_eq w
    show _ = (((⟨s.sk, s.names⟩ : Pr).word w).bind fun t => t.words r).bind Pr.fin
    by_cases hg : (parts w).2.1 ≠ [] ∧ (parts w).2.1.all letter = true
    · have R := run_word hc he (parts_open w) hg.2 hg.1 (parts_close w)
      rw [← ew] at R
      rw [word_good (s := ⟨s.sk, s.names⟩) hs hg.1 hg.2]
      have hS1 : ∀ k, Pr.closes ((pushes s.sk (parts w).1).put (.name (parts w).2.1)) (parts w).2.2 = some k → Some1 k := fun k e => closes_some1 _ (put_some1 _ _) e
      generalize Pr.closes ((pushes s.sk (parts w).1).put (.name (parts w).2.1)) (parts w).2.2 = C at R hS1 ⊢
      generalize s.names ++ [(parts w).2.1] = N at R ⊢
      cases r with
      | nil =>
        show (s.run w).bind La.fin = _
        have e1 : (s.run w).bind La.fin = ((s.run w).map La.flush).bind La.fin := by
          rw [map_bind]; congr 1; funext a; exact (fin_flush a).symm
        rw [e1, R, map_bind]
        by_cases hN : namesOk N
        · rw [if_pos hN]
          cases C with
          | none => rfl
          | some k =>
            show La.fin _ = Pr.fin _
            unfold La.fin
            rw [flush_nil (s := ⟨k, [], N, true⟩) rfl, if_pos hN]; rfl
        · rw [if_neg hN]
          cases C with
          | none => rfl
          | some k =>
            show La.fin _ = none
            unfold La.fin
            rw [flush_nil (s := ⟨k, [], N, true⟩) rfl, if_neg hN]
      | cons v r =>
        have ej : join (w :: v :: r) = w ++ 32 :: join (v :: r) := rfl
        have e1 : (s.run (join (w :: v :: r))).bind La.fin = ((s.run w).map La.flush).bind fun f => ((f.put 32).bind fun t => t.run (join (v :: r))).bind La.fin := by
          rw [ej, La.run_app, map_bind]
          cases s.run w with
          | none => rfl
          | some t =>
            show ((t.step 32).bind _).bind _ = _
            unfold La.step
            rw [l32.1, if_neg Bool.false_ne_true]
            rfl
        rw [e1, R, map_bind]
        have ep : ∀ k : Sk, (⟨k, [], N, true⟩ : La).put 32 = if k.open_ ≠ [] then some ⟨k, [], N, false⟩ else none := fun k => by
          unfold La.put
          rw [l32.2.1, if_neg (fun h => nomatch h.1), l32.2.2, if_neg (fun h => nomatch h.1)]
          by_cases h : k.open_ ≠ []
          · rw [if_pos ⟨rfl, rfl, h⟩, if_pos h]
          · rw [if_neg (fun q => h q.2.2), if_neg h]
        cases C with
        | none =>
          by_cases hN : namesOk N
          · rw [if_pos hN]; rfl
          · rw [if_neg hN]; rfl
        | some k =>
          show (((⟨k, [], N, true⟩ : La).put 32).bind _).bind _ = _
          rw [ep k]
          by_cases hk : k.open_ ≠ []
          · rw [if_pos hk]
            show (La.run ⟨k, [], N, false⟩ (join (v :: r))).bind La.fin = _
            by_cases hN : namesOk N
            · rw [if_pos hN]
              exact ih (List.cons_ne_nil _ _) (fun x hx => h32 x (List.mem_cons_of_mem _ hx)) ⟨k, [], N, false⟩ rfl rfl hN (.inl hk)
            · rw [if_neg hN, bad_names (s := ⟨k, [], N, false⟩) hN]; rfl
          · rw [if_neg hk]
            have hb : 1 ≤ k.base.length := (hS1 k rfl).elim (fun h => absurd h hk) id
            by_cases hN : namesOk N
            · rw [if_pos hN]
              exact (words_base (s := ⟨k, N⟩) (ws := v :: r) hb (List.cons_ne_nil _ _)).symm
            · rw [if_neg hN]; rfl
    · rw [word_bad hg]
      show _ = none
      rcases run_bad hc he hw hg with e | ⟨o, e⟩
      · cases r with
        | nil => show (s.run w).bind _ = none; rw [e]; rfl
        | cons v r =>
          show (s.run (w ++ 32 :: join (v :: r))).bind _ = none
          rw [La.run_app, e]; rfl
      · cases r with
        | nil =>
          show (s.run w).bind _ = none
          rw [e]
          show La.fin _ = none
          unfold La.fin
          rw [flush_nil (s := { s with sk := pushes s.sk o }) hc]
          have : one (pushes s.sk o) = none := by
            unfold one
            split
            · rename_i f h1 h2
              rw [pushes_base] at h2
              rcases hin with h | h
              · exfalso
                have : ∀ (o : List Nat) (s : Sk), s.open_ ≠ [] → (pushes s o).open_ ≠ [] := by
                  intro o
                  induction o with
                  | nil => intro s h; exact h
                  | cons c r ih => intro s h; exact ih (s.push c) (List.cons_ne_nil _ _)
                exact this o s.sk h h1
              · rw [h] at h2; cases h2
            · rfl
          show (if _ then one (pushes s.sk o) else none) = none
          rw [this]; split <;> rfl
        | cons v r =>
          show (s.run (w ++ 32 :: join (v :: r))).bind _ = none
          rw [La.run_app, e]
          show ((La.step _ 32).bind _).bind _ = none
          unfold La.step
          rw [l32.1, if_neg Bool.false_ne_true, flush_nil (s := { s with sk := pushes s.sk o }) hc]
          unfold La.put
          rw [l32.2.1, if_neg (fun h => nomatch h.1), l32.2.2, if_neg (fun h => nomatch h.1), if_neg (fun h => by have h2 : s.ended = true := h.2.1; rw [he] at h2; cases h2)]
          rfl
/-- the law's reader and the program's reader of a text -/
theorem same_read (ws : List (List Nat)) (h : ws ≠ []) (h32 : ∀ w ∈ ws, 32 ∉ w) :
    ((⟨⟨[], []⟩, [], [], false⟩ : La).run (join ws)).bind La.fin = ((⟨⟨[], []⟩, []⟩ : Pr).words ws).bind Pr.fin :=
  same_words ws h h32 ⟨⟨[], []⟩, [], [], false⟩ rfl rfl ⟨(fun z h => nomatch h), List.nodup_nil, Nat.zero_le _⟩ (.inr rfl)
end My7
namespace My7
/-! ### a read form shows the text it was read from -/
def joinSp : List (List Nat) → List Nat
  | [] => []
  | [w] => w
  | w :: v :: r => w ++ 32 :: joinSp (v :: r)
def sgn (k : Bool) : Nat := if k then 91 else 40
def csgn (k : Bool) : Nat := if k then 93 else 41
mutual
def showF : Fm → List Nat
  | .name z => z
  | .node k ps => sgn k :: (joinSp (showL ps) ++ [csgn k])
def showL : List Fm → List (List Nat)
  | [] => []
  | f :: r => showF f :: showL r
end
theorem showL_map (ps : List Fm) : showL ps = ps.map showF := by
  induction ps with
  | nil => rfl
  | cons f r ih => rw [showL, ih]; rfl
theorem joinSp_last (l : List (List Nat)) (x y : List Nat) : joinSp (l ++ [x ++ y]) = joinSp (l ++ [x]) ++ y := by
  induction l with
  | nil => rfl
  | cons a r ih =>
    cases r with
    | nil => show a ++ 32 :: (x ++ y) = (a ++ 32 :: x) ++ y; simp
    | cons b r =>
      show a ++ 32 :: joinSp ((b :: r) ++ [x ++ y]) = (a ++ 32 :: joinSp ((b :: r) ++ [x])) ++ y
      rw [ih]; simp
theorem joinSp_more {l : List (List Nat)} (h : l ≠ []) (x : List Nat) : joinSp (l ++ [x]) = joinSp l ++ 32 :: x := by
  induction l with
  | nil => exact absurd rfl h
  | cons a r ih =>
    cases r with
    | nil => rfl
    | cons b r =>
      show a ++ 32 :: joinSp ((b :: r) ++ [x]) = (a ++ 32 :: joinSp (b :: r)) ++ 32 :: x
      rw [ih (List.cons_ne_nil _ _)]; simp
/-- the text so far, with an unfinished last item in the innermost piece -/
def fill : List (Bool × List Fm) → List Fm → Option (List Nat) → List Nat
  | [], base, x => joinSp (base.map showF ++ x.toList)
  | (k, ps) :: r, base, x => fill r base (some (sgn k :: joinSp (ps.map showF ++ x.toList)))
def Sk.text (s : Sk) : List Nat := fill s.open_ s.base none
theorem fill_app (lv : List (Bool × List Fm)) (base : List Fm) (x y : List Nat) : fill lv base (some (x ++ y)) = fill lv base (some x) ++ y := by
  induction lv generalizing x with
  | nil => exact joinSp_last _ x y
  | cons p r ih =>
    obtain ⟨k, ps⟩ := p
    show fill r base (some (sgn k :: joinSp (ps.map showF ++ [x ++ y]))) = fill r base (some (sgn k :: joinSp (ps.map showF ++ [x]))) ++ y
    rw [joinSp_last, ← List.cons_append, ih]
/-- the innermost piece has a part -/
def Ne (s : Sk) : Prop := match s.open_ with
  | [] => s.base ≠ []
  | (_, ps) :: _ => ps ≠ []
theorem fill_more {s : Sk} (h : Ne s) (x : List Nat) : fill s.open_ s.base (some x) = s.text ++ 32 :: x := by
  obtain ⟨base, lv⟩ := s
  cases lv with
  | nil =>
    have h : base ≠ [] := h
    show joinSp (base.map showF ++ [x]) = joinSp (base.map showF ++ []) ++ 32 :: x
    rw [List.append_nil, joinSp_more (fun e => h (List.map_eq_nil_iff.mp e))]
  | cons p r =>
    obtain ⟨k, ps⟩ := p
    have h : ps ≠ [] := h
    show fill r base (some (sgn k :: joinSp (ps.map showF ++ [x]))) = fill r base (some (sgn k :: joinSp (ps.map showF ++ []))) ++ 32 :: x
    rw [List.append_nil, joinSp_more (fun e => h (List.map_eq_nil_iff.mp e)), ← List.cons_append, fill_app]
theorem text_put (s : Sk) (f : Fm) : (s.put f).text = fill s.open_ s.base (some (showF f)) ∧ Ne (s.put f) := by
  obtain ⟨base, lv⟩ := s
  cases lv with
  | nil =>
    refine ⟨?_, by show base ++ [f] ≠ []; simp⟩
    show joinSp ((base ++ [f]).map showF ++ []) = joinSp (base.map showF ++ [showF f])
    rw [List.append_nil, List.map_append]; rfl
  | cons p r =>
    obtain ⟨k, ps⟩ := p
    refine ⟨?_, by show ps ++ [f] ≠ []; simp⟩
    show fill r base (some (sgn k :: joinSp ((ps ++ [f]).map showF ++ []))) = fill r base (some (sgn k :: joinSp (ps.map showF ++ [showF f])))
    rw [List.append_nil, List.map_append]; rfl
theorem fill_pushes : ∀ (o : List Nat) (s : Sk) (x : List Nat), (∀ c ∈ o, opener c = true) → fill (pushes s o).open_ (pushes s o).base (some x) = fill s.open_ s.base (some (o ++ x))
  | [], _, _, _ => rfl
  | c :: r, s, x, h => by
    have h1 := h c List.mem_cons_self
    have ec : sgn (c == 91) = c := by
      unfold opener at h1
      unfold sgn
      simp at h1
      rcases h1 with h1 | h1 <;> subst h1 <;> rfl
    have := fill_pushes r (s.push c) x fun d hd => h d (List.mem_cons_of_mem _ hd)
    show fill (pushes (s.push c) r).open_ (pushes (s.push c) r).base (some x) = _
    rw [this]
    show fill s.open_ s.base (some (sgn (c == 91) :: joinSp ([] ++ [r ++ x]))) = _
    rw [ec]; rfl
theorem text_close {s t : Sk} {c : Nat} (hc : closer c = true) (e : s.close c = some t) : t.text = s.text ++ [c] ∧ Ne t := by
  have e0 := e
  unfold Sk.close at e
  cases h : s.open_ with
  | nil => rw [h] at e; cases e
  | cons p r =>
    obtain ⟨k, ps⟩ := p
    rw [h] at e
    dsimp only at e
    by_cases q : k = (c == 93) ∧ (if k then 3 else 2) ≤ ps.length
    · rw [if_pos q] at e
      cases e
      obtain ⟨e1, e2⟩ := text_put ({ s with open_ := r } : Sk) (.node k ps)
      refine ⟨?_, e2⟩
      rw [e1]
      have ec : csgn k = c := by
        unfold closer at hc
        unfold csgn
        rw [q.1]
        simp at hc
        rcases hc with hc | hc <;> subst hc <;> rfl
      show fill r s.base (some (showF (.node k ps))) = fill s.open_ s.base none ++ [c]
      rw [h]
      show _ = fill r s.base (some (sgn k :: joinSp (ps.map showF ++ []))) ++ [c]
      rw [← fill_app, List.append_nil, showF, showL_map, ec]; rfl
    · rw [if_neg q] at e; cases e
theorem text_closes : ∀ (c : List Nat) {s t : Sk}, (∀ x ∈ c, closer x = true) → Ne s → Pr.closes s c = some t → t.text = s.text ++ c ∧ Ne t
  | [], s, t, _, h, e => by cases e; exact ⟨(List.append_nil _).symm, h⟩
  | x :: r, s, t, hc, h, e => by
    have e : (s.close x).bind (fun t => Pr.closes t r) = some t := e
    cases e1 : s.close x with
    | none => rw [e1] at e; cases e
    | some u =>
      rw [e1] at e
      obtain ⟨a, b⟩ := text_close (hc x List.mem_cons_self) e1
      obtain ⟨a2, b2⟩ := text_closes r (fun y hy => hc y (List.mem_cons_of_mem _ hy)) b e
      exact ⟨by rw [a2, a, List.append_assoc]; rfl, b2⟩
theorem text_word {s t : Pr} {w : List Nat} (e : s.word w = some t) : t.sk.text = fill s.sk.open_ s.sk.base (some w) ∧ Ne t.sk := by
  unfold Pr.word at e
  dsimp only at e
  split at e
  · generalize hk : Pr.closes _ _ = k at e
    cases k with
    | none => cases e
    | some k =>
      cases e
      obtain ⟨a, b⟩ := text_put (pushes s.sk (parts w).1) (.name (parts w).2.1)
      obtain ⟨a2, b2⟩ := text_closes _ (parts_close w) b hk
      refine ⟨?_, b2⟩
      show k.text = _
      rw [a2, a, fill_pushes _ _ _ (parts_open w), showF, ← fill_app, List.append_assoc, ← parts_eq]
  · cases e
theorem text_words : ∀ (ws : List (List Nat)) {s t : Pr}, ws ≠ [] → Ne s.sk → s.words ws = some t → t.sk.text = s.sk.text ++ 32 :: join ws
  | [], _, _, h, _, _ => absurd rfl h
  | w :: r, s, t, _, h, e => by
    have e : (s.word w).bind (fun t => t.words r) = some t := e
    cases e1 : s.word w with
    | none => rw [e1] at e; cases e
    | some u =>
      rw [e1] at e
      obtain ⟨a, b⟩ := text_word e1
      rw [fill_more h] at a
      cases r with
      | nil => cases e; exact a
      | cons v r =>
        have := text_words (v :: r) (List.cons_ne_nil _ _) b e
        rw [this, a]
        show (s.sk.text ++ 32 :: w) ++ 32 :: join (v :: r) = s.sk.text ++ 32 :: (w ++ 32 :: join (v :: r))
        simp
/-- the form read from a text shows that text -/
theorem show_read (ws : List (List Nat)) (h : ws ≠ []) {f : Fm} (e : ((⟨⟨[], []⟩, []⟩ : Pr).words ws).bind Pr.fin = some f) : showF f = join ws := by
  have key : ∀ t : Pr, (⟨⟨[], []⟩, []⟩ : Pr).words ws = some t → t.sk.text = join ws := fun t e => by
    cases ws with
    | nil => exact absurd rfl h
    | cons w r =>
      have e : ((⟨⟨[], []⟩, []⟩ : Pr).word w).bind (fun t => t.words r) = some t := e
      cases e1 : (⟨⟨[], []⟩, []⟩ : Pr).word w with
      | none => rw [e1] at e; cases e
      | some u =>
        rw [e1] at e
        obtain ⟨a, b⟩ := text_word e1
        have a : u.sk.text = w := a
        cases r with
        | nil => cases e; exact a
        | cons v r =>
          have := text_words (v :: r) (List.cons_ne_nil _ _) b e
          rw [this, a]; rfl
  cases ew : (⟨⟨[], []⟩, []⟩ : Pr).words ws with
  | none => rw [ew] at e; cases e
  | some t =>
    rw [ew] at e
    have ht := key t ew
    have e : one t.sk = some f := e
    unfold one at e
    split at e
    · rename_i g h1 h2
      cases e
      rw [← ht]
      show _ = fill t.sk.open_ t.sk.base none
      rw [h1, h2]
      rfl
    · cases e
end My7
namespace My7
/-! ### a form's own text is read as the form -/
mutual
def nmF : Fm → List (List Nat)
  | .name z => [z]
  | .node _ ps => nmL ps
def nmL : List Fm → List (List Nat)
  | [] => []
  | f :: r => nmF f ++ nmL r
end
mutual
def WF : Fm → Prop
  | .name z => z ≠ [] ∧ z.all letter = true
  | .node k ps => (if k then 3 else 2) ≤ ps.length ∧ WFL ps
def WFL : List Fm → Prop
  | [] => True
  | f :: r => WF f ∧ WFL r
end
def La.add (s : La) (f : Fm) : La := ⟨s.sk.put f, [], s.names ++ nmF f, true⟩
def putL (s : Sk) : List Fm → Sk
  | [] => s
  | f :: r => putL (s.put f) r
theorem put_open {s : Sk} {f : Fm} (h : s.open_ ≠ []) : (s.put f).open_ ≠ [] := by
  unfold Sk.put
  split
  · rename_i e; exact absurd e h
  · exact List.cons_ne_nil _ _
theorem putL_top (base : List Fm) (k : Bool) (r : List (Bool × List Fm)) : ∀ (ps qs : List Fm), putL ⟨base, (k, qs) :: r⟩ ps = ⟨base, (k, qs ++ ps) :: r⟩
  | [], qs => by rw [List.append_nil]; rfl
  | f :: ps, qs => by
    show putL ⟨base, (k, qs ++ [f]) :: r⟩ ps = _
    rw [putL_top base k r ps (qs ++ [f]), List.append_assoc]; rfl
theorem step_flush (t : La) {c : Nat} (h : letter c = false) : t.step c = t.flush.put c := by
  unfold La.step
  rw [h, if_neg Bool.false_ne_true]
mutual
theorem run_showF : ∀ (f : Fm) (s : La), s.cur = [] → s.ended = false → WF f → (s.run (showF f)).map La.flush = some (s.add f)
  | .name z, s, hc, he, h => by
    have := run_word hc he (o := []) (z := z) (c := []) (fun x h => nomatch h) h.2 h.1 (fun x h => nomatch h)
    rw [List.nil_append, List.append_nil] at this
    rw [showF, this]; rfl
  | .node k ps, s, hc, he, h => by
    obtain ⟨hl, hw⟩ := h
    have ho : opener (sgn k) = true := by cases k <;> rfl
    have hcl : closer (csgn k) = true := by cases k <;> rfl
    have e1 : s.step (sgn k) = some ⟨s.sk.push (sgn k), [], s.names, false⟩ := by
      rw [step_flush _ (open_let ho), flush_nil hc]
      unfold La.put
      rw [if_pos ⟨ho, he⟩, hc]
    have ek : ((sgn k) == 91) = k := by cases k <;> rfl
    have hp : ps ≠ [] := fun e => by subst e; cases k <;> simp at hl
    have e2 := run_showL ps ⟨s.sk.push (sgn k), [], s.names, false⟩ hp rfl rfl (List.cons_ne_nil _ _) hw
    rw [showF]
    show ((s.step (sgn k)).bind fun t => t.run (joinSp (showL ps) ++ [csgn k])).map La.flush = _
    rw [e1]
    show (La.run _ (joinSp (showL ps) ++ [csgn k])).map La.flush = _
    rw [La.run_app]
    cases e3 : (⟨s.sk.push (sgn k), [], s.names, false⟩ : La).run (joinSp (showL ps)) with
    | none => rw [e3] at e2; cases e2
    | some t =>
      rw [e3] at e2
      have e2 : t.flush = ⟨putL (s.sk.push (sgn k)) ps, [], s.names ++ nmL ps, true⟩ := Option.some.inj e2
      show ((t.step (csgn k)).bind fun t => some t).map La.flush = _
      rw [step_flush _ (close_let hcl).1, e2]
      have ep : putL (s.sk.push (sgn k)) ps = ⟨s.sk.base, (k, ps) :: s.sk.open_⟩ := by
        unfold Sk.push
        rw [putL_top, ek]; rfl
      have ec : (⟨s.sk.base, (k, ps) :: s.sk.open_⟩ : Sk).close (csgn k) = some (s.sk.put (.node k ps)) := by
        unfold Sk.close
        dsimp only
        rw [if_pos ⟨by cases k <;> rfl, hl⟩]
      rw [ep]
      unfold La.put
      rw [(close_let hcl).2, if_neg (fun h => nomatch h.1), if_pos ⟨hcl, rfl⟩]
      dsimp only
      rw [ec]
      rfl
theorem run_showL : ∀ (ps : List Fm) (s : La), ps ≠ [] → s.cur = [] → s.ended = false → s.sk.open_ ≠ [] → WFL ps → (s.run (joinSp (showL ps))).map La.flush = some ⟨putL s.sk ps, [], s.names ++ nmL ps, true⟩
  | [], _, h, _, _, _, _ => absurd rfl h
  | [f], s, _, hc, he, _, h => by
    have := run_showF f s hc he h.1
    show (s.run (showF f)).map La.flush = _
    rw [this]
    show some (La.mk _ _ _ _) = _
    rw [nmL, nmL, List.append_nil]; rfl
  | f :: g :: r, s, _, hc, he, ho, h => by
    have e1 := run_showF f s hc he h.1
    have e2 := run_showL (g :: r) ⟨s.sk.put f, [], s.names ++ nmF f, false⟩ (List.cons_ne_nil _ _) rfl rfl (put_open ho) h.2
    show (s.run (showF f ++ 32 :: joinSp (showL (g :: r)))).map La.flush = _
    rw [La.run_app]
    cases e3 : s.run (showF f) with
    | none => rw [e3] at e1; cases e1
    | some t =>
      rw [e3] at e1
      have e1 : t.flush = s.add f := Option.some.inj e1
      show ((t.step 32).bind fun t => t.run (joinSp (showL (g :: r)))).map La.flush = _
      rw [step_flush _ l32.1, e1]
      have ep : (s.add f).put 32 = some ⟨s.sk.put f, [], s.names ++ nmF f, false⟩ := by
        unfold La.put
        rw [l32.2.1, if_neg (fun h => nomatch h.1), l32.2.2, if_neg (fun h => nomatch h.1), if_pos ⟨rfl, rfl, put_open ho⟩]; rfl
      rw [ep]
      show (La.run _ (joinSp (showL (g :: r)))).map La.flush = _
      rw [e2, nmL, List.append_assoc]; rfl
end
theorem read_show {f : Fm} (h : WF f) (hn : namesOk (nmF f)) : ((⟨⟨[], []⟩, [], [], false⟩ : La).run (showF f)).bind La.fin = some f := by
  have e := run_showF f ⟨⟨[], []⟩, [], [], false⟩ rfl rfl h
  cases e3 : (⟨⟨[], []⟩, [], [], false⟩ : La).run (showF f) with
  | none => rw [e3] at e; cases e
  | some t =>
    rw [e3] at e
    have e : t.flush = ⟨⟨[f], []⟩, [], nmF f, true⟩ := Option.some.inj e
    show La.fin t = some f
    unfold La.fin
    rw [e, if_pos hn]; rfl
end My7
set_option maxRecDepth 100000
set_option maxHeartbeats 4000000
namespace My
open PySem L2
def top (i : Nat) : Stmt := PySem.Challenge.pw_unbrokenrows_k07_form_texts.main.body.getD i (.Pass ⟨0, 0, 0, 0⟩)
abbrev s_BadText_init : Stmt := inClass (top 4) 0
abbrev s_is_name : Stmt := top 7
abbrev s_form_text : Stmt := top 13
abbrev s_read_form : Stmt := top 14
abbrev s_FormReader_init : Stmt := inClass (top 15) 0
abbrev s_FormReader_take : Stmt := inClass (top 15) 1
abbrev s_FormReader_result : Stmt := inClass (top 15) 2
abbrev s_FormReader_add_name : Stmt := inClass (top 15) 3
abbrev s_FormReader_close : Stmt := inClass (top 15) 4
abbrev s_law_cell : Stmt := top 17
abbrev s_law_pool : Stmt := top 18
abbrev s_law_word : Stmt := top 19
abbrev s_law_new : Stmt := top 20
abbrev s_law_form : Stmt := top 21
abbrev s_law_form_text : Stmt := top 22
abbrev s_law_closed : Stmt := top 23
abbrev s_law_put : Stmt := top 24
abbrev s_law_described : Stmt := top 25
abbrev s_law_sign : Stmt := top 26
abbrev s_law_edited : Stmt := top 27
abbrev s_law_written : Stmt := top 28
abbrev s_law_answers : Stmt := top 29
abbrev s_law : Stmt := top 30
theorem ss_BadText_init : SupScope ["self", "line"] ["self", "line"] (defScope s_BadText_init) := ⟨rfl, rfl, rfl, by decide +kernel, rfl, by decide +kernel, by decide +kernel, by decide +kernel, rfl, rfl⟩
theorem sc_is_name : FnScope ["text", "sign"] ["text"] (defScope s_is_name) := ⟨rfl, rfl, rfl, by decide +kernel, rfl, by decide +kernel, by decide +kernel⟩
theorem sc_form_text : FnScope ["form", "inside", "part"] ["form"] (defScope s_form_text) := ⟨rfl, rfl, rfl, by decide +kernel, rfl, by decide +kernel, by decide +kernel⟩
theorem sc_read_form : FnScope ["text", "reader", "word"] ["text"] (defScope s_read_form) := ⟨rfl, rfl, rfl, by decide +kernel, rfl, by decide +kernel, by decide +kernel⟩
theorem sc_FormReader_init : FnScope ["self"] ["self"] (defScope s_FormReader_init) := ⟨rfl, rfl, rfl, by decide +kernel, rfl, by decide +kernel, by decide +kernel⟩
theorem sc_FormReader_take : FnScope ["self", "word", "opened", "name", "sign"] ["self", "word"] (defScope s_FormReader_take) := ⟨rfl, rfl, rfl, by decide +kernel, rfl, by decide +kernel, by decide +kernel⟩
theorem sc_FormReader_result : FnScope ["self"] ["self"] (defScope s_FormReader_result) := ⟨rfl, rfl, rfl, by decide +kernel, rfl, by decide +kernel, by decide +kernel⟩
theorem sc_FormReader_add_name : FnScope ["self", "name"] ["self", "name"] (defScope s_FormReader_add_name) := ⟨rfl, rfl, rfl, by decide +kernel, rfl, by decide +kernel, by decide +kernel⟩
theorem sc_FormReader_close : FnScope ["self", "sign", "piece", "kind"] ["self", "sign"] (defScope s_FormReader_close) := ⟨rfl, rfl, rfl, by decide +kernel, rfl, by decide +kernel, by decide +kernel⟩
theorem sc_law_cell : FnScope ["script", "k"] ["script", "k"] (defScope s_law_cell) := ⟨rfl, rfl, rfl, by decide +kernel, rfl, by decide +kernel, by decide +kernel⟩
theorem sc_law_pool : FnScope ["script", "k", "count", "value", "pool", "i", "first", "second", "third"] ["script", "k", "count"] (defScope s_law_pool) := ⟨rfl, rfl, rfl, by decide +kernel, rfl, by decide +kernel, by decide +kernel⟩
theorem sc_law_word : FnScope ["pool", "at", "code", "size", "word", "i"] ["pool", "at"] (defScope s_law_word) := ⟨rfl, rfl, rfl, by decide +kernel, rfl, by decide +kernel, by decide +kernel⟩
theorem sc_law_new : FnScope ["names", "word", "letters", "turn"] ["names", "word"] (defScope s_law_new) := ⟨rfl, rfl, rfl, by decide +kernel, rfl, by decide +kernel, by decide +kernel⟩
theorem sc_law_form : FnScope ["order", "pool", "start", "steps", "parts", "k", "draw", "many", "at", "width", "group", "word"] ["order", "pool", "start", "steps"] (defScope s_law_form) := ⟨rfl, rfl, rfl, by decide +kernel, rfl, by decide +kernel, by decide +kernel⟩
theorem sc_law_form_text : FnScope ["form", "inner", "part"] ["form"] (defScope s_law_form_text) := ⟨rfl, rfl, rfl, by decide +kernel, rfl, by decide +kernel, by decide +kernel⟩
theorem sc_law_closed : FnScope ["levels", "sign", "part", "square"] ["levels", "sign"] (defScope s_law_closed) := ⟨rfl, rfl, rfl, by decide +kernel, rfl, by decide +kernel, by decide +kernel⟩
theorem sc_law_put : FnScope ["levels", "ended", "sign"] ["levels", "ended", "sign"] (defScope s_law_put) := ⟨rfl, rfl, rfl, by decide +kernel, rfl, by decide +kernel, by decide +kernel⟩
theorem sc_law_described : FnScope ["text", "levels", "names", "ended", "sign", "letter", "wrong", "name"] ["text"] (defScope s_law_described) := ⟨rfl, rfl, rfl, by decide +kernel, rfl, by decide +kernel, by decide +kernel⟩
theorem sc_law_sign : FnScope ["draw", "others", "way"] ["draw"] (defScope s_law_sign) := ⟨rfl, rfl, rfl, by decide +kernel, rfl, by decide +kernel, by decide +kernel⟩
theorem sc_law_edited : FnScope ["text", "pool", "at", "way", "k", "sign", "more"] ["text", "pool", "at"] (defScope s_law_edited) := ⟨rfl, rfl, rfl, by decide +kernel, rfl, by decide +kernel, by decide +kernel⟩
theorem sc_law_written : FnScope ["draw", "texts"] ["draw"] (defScope s_law_written) := ⟨rfl, rfl, rfl, by decide +kernel, rfl, by decide +kernel, by decide +kernel⟩
theorem sc_law_answers : FnScope ["text", "due", "found", "told", "kinds", "e"] ["text"] (defScope s_law_answers) := ⟨rfl, rfl, rfl, by decide +kernel, rfl, by decide +kernel, by decide +kernel⟩
theorem sc_law : FnScope ["script", "pool", "edits", "names", "k", "word", "form", "text", "told", "spoiled", "many", "turn", "wide"] ["script"] (defScope s_law) := ⟨rfl, rfl, rfl, by decide +kernel, rfl, by decide +kernel, by decide +kernel⟩
theorem hu10 {A : Around} {k : Nat} (hr : Room k A) : A.units + 10 < cLine := by have := hr.un; omega
/-- text * int -/
theorem op_mulS {X : Cx} : OpR X (binaryOp .Mult) (fun x y H Q => ∃ (z : Str) (n : Int), x = .str z ∧ y = .int n ∧ MulOk z n ∧ Q (.str (Txt.mul z n)) H) := by
  intro pins s σ H x y v u Q I rx ry h
  obtain ⟨z, n, rfl, rfl, ok, q⟩ := h
  obtain ⟨t, rfl⟩ := rx
  obtain ⟨t', rfl⟩ := ry
  exact PySem.SB.mul ok fun t' k => ⟨.str (Txt.mul z n), H, I.tok _, ⟨_, rfl⟩, q⟩
def rLen2 (K : PySem.W.Frag) : List V → Hp → VK → Prop := fun xs H Q => ∃ p ys, xs = [.ref p] ∧ (SqL K H p ys ∨ SqT K H p ys) ∧ Q (.int ys.length) H
def rListOf (K : PySem.W.Frag) : List V → Hp → VK → Prop := fun xs H Q => ∃ p ys, xs = [.ref p] ∧ (SqL K H p ys ∨ SqT K H p ys) ∧ ∀ l, H l = none → Q (.ref l) (upd H l (.lst ys))
def rTupOf (K : PySem.W.Frag) : List V → Hp → VK → Prop := fun xs H Q => ∃ p ys, xs = [.ref p] ∧ ((SqL K H p ys ∧ ∀ l, H l = none → Q (.ref l) (upd H l (.tup ys))) ∨ (SqT K H p ys ∧ Q (.ref p) H))
/-! ### texts in lists -/
abbrev sv (ss : List Str) : List V := ss.map V.str
theorem len_sv (ss : List Str) : (sv ss).length = ss.length := List.length_map ..
theorem flat_sv (ss : List Str) : (sv ss).all flatV = true := by
  rw [List.all_eq_true]; intro x hx; obtain ⟨s, _, rfl⟩ := List.mem_map.mp hx; rfl
theorem eqV_str (a b : Str) : eqV (.str a) (.str b) = decide (a = b) := by
  first | rfl | (simp only [eqV]; by_cases h : a = b <;> simp [h])
theorem inV_str (x : Str) (ss : List Str) : inV (.str x) (sv ss) = decide (x ∈ ss) := by
  unfold inV
  rw [Bool.eq_iff_iff, List.any_eq_true, decide_eq_true_iff]
  constructor
  · rintro ⟨y, hy, e⟩
    obtain ⟨s, hs, rfl⟩ := List.mem_map.mp hy
    rw [eqV_str, decide_eq_true_iff] at e
    rw [← e]; exact hs
  · intro h
    exact ⟨.str x, List.mem_map.mpr ⟨x, h, rfl⟩, by rw [eqV_str]; simp⟩
theorem sv_get {ss : List Str} {i : Nat} {v : V} (h : (sv ss)[i]? = some v) : ∃ s, ss[i]? = some s ∧ v = .str s := by
  rw [List.getElem?_map] at h
  cases e : ss[i]? with
  | none => rw [e] at h; cases h
  | some t => rw [e] at h; exact ⟨t, rfl, (Option.some.inj h).symm⟩
theorem cut_take {xs : List V} {k : Nat} (h : k ≤ xs.length) : cutV xs none (some (k : Int)) = xs.take k := by
  unfold cutV
  rw [HT.sIx_none, HT.sIx_nat, Nat.min_eq_left h]
  simp
theorem cut_drop {xs : List V} {k : Nat} (h : k ≤ xs.length) : cutV xs (some (k : Int)) none = xs.drop k := by
  unfold cutV
  rw [HT.sIx_none, HT.sIx_nat, Nat.min_eq_left h]
  rw [List.take_of_length_le (by rw [List.length_drop]; exact Nat.le_refl _)]
theorem sv_take (ss : List Str) (k : Nat) : (sv ss).take k = sv (ss.take k) := List.map_take.symm
theorem sv_drop (ss : List Str) (k : Nat) : (sv ss).drop k = sv (ss.drop k) := List.map_drop.symm
/-! ### names -/
def Letters (l : List Nat) : Prop := ∀ c ∈ l, 97 ≤ c ∧ c ≤ 122
structure Good (z : Str) : Prop where
  pos : 1 ≤ z.length
  le : z.length ≤ 8
  let_ : Letters z.cps.toList
theorem str_ext {a b : Str} (h : a.cps = b.cps) : a = b := by cases a; cases b; exact congrArg Str.mk h
theorem append_cps (a b : Str) : (a ++ b).cps = a.cps ++ b.cps := rfl
/-! ### lengths -/
theorem sum_le {ys : List Nat} {B : Nat} (h : ∀ y ∈ ys, y ≤ B) : ys.sum ≤ ys.length * B := by
  induction ys with
  | nil => simp
  | cons y r ih =>
    have h1 := h y List.mem_cons_self
    have h2 := ih fun x hx => h x (List.mem_cons_of_mem _ hx)
    rw [List.sum_cons, List.length_cons, Nat.succ_mul]
    omega
theorem join_len (a : Str) : ∀ ys : List Str, (Txt.join a ys).length ≤ (ys.map (·.length)).sum + ys.length * a.length
  | [] => by
    show (Txt.join a []).length ≤ 0 + 0 * a.length
    have : (Txt.join a []).length = 0 := rfl
    omega
  | [x] => by
    have : Txt.join a [x] = x := by rw [TL.join_eq]; rfl
    rw [this]
    simp
  | x :: y :: r => by
    have e : Txt.join a (x :: y :: r) = x ++ a ++ Txt.join a (y :: r) := by rw [TL.join_eq, TL.join_eq]; rfl
    have ih := join_len a (y :: r)
    rw [e, Str.length_append, Str.length_append, List.map_cons, List.sum_cons, List.length_cons, Nat.succ_mul]
    omega
theorem fits_join {a : Str} {ys : List Str} {B n : Nat} (h : ∀ y ∈ ys, y.length ≤ B) (hn : ys.length ≤ n) (hs : n * (B + a.length) ≤ 16777216) : (ys.map (·.length)).sum + ys.length * a.length ≤ 16777216 ∧ (Txt.join a ys).length ≤ n * (B + a.length) := by
  have h1 : (ys.map (·.length)).sum ≤ (ys.map (·.length)).length * B := sum_le fun y hy => by
    obtain ⟨z, hz, rfl⟩ := List.mem_map.mp hy
    exact h z hz
  rw [List.length_map] at h1
  have h2 := join_len a ys
  have h3 : ys.length * (B + a.length) ≤ n * (B + a.length) := Nat.mul_le_mul_right _ hn
  rw [Nat.mul_add] at h3
  omega
def okName (z : Str) : Bool := decide (1 ≤ z.length) && (decide (z.length ≤ 8) && z.cps.toList.all fun c => decide (97 ≤ c ∧ c ≤ 122))
theorem okName_iff {z : Str} : okName z = true ↔ Good z := by
  unfold okName
  rw [Bool.and_eq_true, Bool.and_eq_true, decide_eq_true_iff, decide_eq_true_iff, List.all_eq_true]
  exact ⟨fun ⟨a, b, c⟩ => ⟨a, b, fun x hx => of_decide_eq_true (c x hx)⟩, fun h => ⟨h.pos, h.le, fun x hx => decide_eq_true (h.let_ x hx)⟩⟩
theorem tl_nl : TL.tl ("\n" : Str) = [10] := by decide
theorem tl_sp : TL.tl (" " : Str) = [32] := by decide
theorem mem_joinL {s : List Nat} {c : Nat} : ∀ {ps : List (List Nat)}, c ∈ TL.joinL s ps → c ∈ s ∨ ∃ p ∈ ps, c ∈ p
  | [], h => by cases h
  | [p], h => .inr ⟨p, List.mem_singleton.mpr rfl, h⟩
  | p :: q :: r, h => by
    have h : c ∈ p ++ (s ++ TL.joinL s (q :: r)) := h
    rcases List.mem_append.mp h with h | h
    · exact .inr ⟨p, List.mem_cons_self, h⟩
    · rcases List.mem_append.mp h with h | h
      · exact .inl h
      · rcases mem_joinL h with h | ⟨x, hx, h⟩
        · exact .inl h
        · exact .inr ⟨x, List.mem_cons_of_mem _ hx, h⟩
theorem good_no {z : Str} (g : Good z) {c : Nat} (hc : c < 97) : c ∉ TL.tl z := fun h => by
  have := g.let_ c h
  omega
theorem join_ge (y : Str) : ∀ ps : List Str, (ps.map (·.length)).sum + ps.length * y.length ≤ (Str.join y ps).length + y.length
  | [] => by simp
  | [p] => by
    show p.length + 0 + (0 + 1) * y.length ≤ p.length + y.length
    omega
  | p :: q :: r => by
    have ih := join_ge y (q :: r)
    show (p.length + ((q :: r).map (·.length)).sum) + ((q :: r).length + 1) * y.length ≤ (p ++ y ++ Str.join y (q :: r)).length + y.length
    rw [Str.length_append, Str.length_append, Nat.succ_mul]
    omega
theorem split_len (T : Str) {y : Str} (hy : y.length = 1) : ((Txt.split T y).map (·.length)).sum + (Txt.split T y).length ≤ T.length + 1 := by
  have h := join_ge y (Txt.split T y)
  rw [StrLaws.join_split, hy, Nat.mul_one] at h
  exact h
theorem split_ne (T y : Str) : 0 < (Txt.split T y).length := by
  unfold Txt.split
  split
  · simp
  · split
    · simp
    · rw [StrLaws.partsBetween_eq]
      obtain ⟨p, q, e⟩ := StrLaws.partsFrom_ne T y.length 0 (Builtin.Str.occurrences T y 0 T.length (T.length + 1))
      rw [e]; simp
theorem sum_ge {ys : List Nat} {y : Nat} (h : y ∈ ys) : y ≤ ys.sum := by
  induction ys with
  | nil => cases h
  | cons a t ih =>
    rw [List.sum_cons]
    rcases List.mem_cons.mp h with rfl | h
    · omega
    · have := ih h; omega
theorem piece_len {T y p : Str} (hy : y.length = 1) (h : p ∈ Txt.split T y) : p.length ≤ T.length := by
  have h1 := split_len T hy
  have h2 := split_ne T y
  have := sum_ge (List.mem_map.mpr ⟨p, h, rfl⟩ : p.length ∈ (Txt.split T y).map (·.length))
  omega
theorem pieces_len {T y : Str} (hy : y.length = 1) : (Txt.split T y).length ≤ T.length + 1 := by
  have := split_len T hy
  omega
theorem split_none {y : Str} {s : Nat} (ey : TL.tl y = [s]) (hk : y.cps.all (· < 256) = true) {T : Str} (h : s ∉ TL.tl T) : Txt.split T y = [T] := by
  have := TL.split_join (s := s) (S := []) (y := y) ey hk (parts := [T]) (by simp) (fun p hp => by rw [List.mem_singleton.mp hp]; exact h)
  rw [TL.join_eq] at this
  exact this
/-- // by any divisor but 0 below 2 ^ 9000 -/
def CDivX (_ j : Int) : Prop := j ≠ 0 ∧ j.natAbs < 2 ^ 9000
theorem op_fdivX {X : Cx} : OpR X (binaryOp .FloorDiv) (rI CDivX fun i j => .int (i.fdiv j)) := opI fun i j _ _ _ _ _ hc q =>
  PyProof.Rows.floordiv_int hc.1 q (.inl (PyProof.noPylong_of_log2 (PySem.Flt.log2_lt_of (by decide) hc.2)))
theorem itN {c A B : Prop} [Decidable c] (hc : ¬ c) (h : B) : if decide c = true then A else B := by
  rw [decide_eq_false hc]; exact iteF h
theorem itY {c A B : Prop} [Decidable c] (hc : c) (h : A) : if decide c = true then A else B := by
  rw [decide_eq_true hc]; exact iteT h
theorem ifT {b : Bool} {A B : Prop} (hb : b = true) (h : A) : if b = true then A else B := by rw [if_pos hb]; exact h
theorem ifF {b : Bool} {A B : Prop} (hb : b = false) (h : B) : if b = true then A else B := by rw [if_neg (by rw [hb]; decide)]; exact h
theorem same_new {H : Hp} {l : Addr} {o : HO} (h : H l = none) : Same H (upd H l o) := fun b u e => by rw [upd_ne (ne_of_none e h)]; exact e
theorem _root_.L2.Same.tup {K : PySem.W.Frag} {H H' : Hp} {a : Addr} {xs : List V} (e : Same H H') (h : SqT K H a xs) : SqT K H' a xs := by
  rcases h with (r | ⟨o, r⟩) | z
  · exact .inl (.inl (e _ _ r))
  · exact .inl (.inr ⟨o, e _ _ r⟩)
  · exact .inr z
/-! ### a comprehension's list -/
/-- the heap H1 has grown, at D stands fm i -/
def PvS (H1 : Hp) (D : Addr) (fm : Nat → List V) (i : Nat) (H : Hp) : Prop := Same H1 H ∧ H D = some (.lst (fm i))
theorem pv0 {H1 : Hp} {D : Addr} {fm : Nat → List V} (hD : H1 D = none) (h : fm 0 = []) : PvS H1 D fm 0 (upd H1 D (.lst [])) := ⟨same_new hD, by rw [h]; exact upd_same⟩
theorem PvS.more {H1 H H' : Hp} {D : Addr} {fm : Nat → List V} {i : Nat} (p : PvS H1 D fm i H) (s : Same H H') : PvS H1 D fm i H' := ⟨p.1.trans s, s _ _ p.2⟩
theorem PvS.push {H1 H : Hp} {D : Addr} {fm : Nat → List V} {i : Nat} {y : V} (p : PvS H1 D fm i H) (hD : H1 D = none) (h : fm (i + 1) = fm i ++ [y]) (hl : (fm i).length ≤ 1000000) :
    ∃ acc, H D = some (.lst acc) ∧ acc.length < sizeLine ∧ PvS H1 D fm (i + 1) (upd H D (.lst (acc ++ [y]))) := by
  refine ⟨fm i, p.2, Nat.lt_of_le_of_lt hl (by decide), fun b o e => ?_, ?_⟩
  · rw [upd_ne (ne_of_none e hD)]; exact p.1 _ _ e
  · rw [h]; exact upd_same
theorem PvS.skip {H1 H : Hp} {D : Addr} {fm : Nat → List V} {i : Nat} (p : PvS H1 D fm i H) (h : fm (i + 1) = fm i) : PvS H1 D fm (i + 1) H := ⟨p.1, by rw [h]; exact p.2⟩
theorem small_int {n : Nat} (h : n ≤ 1000000) : n < sizeLine := Nat.lt_of_le_of_lt h (by decide)
theorem take_succ {α : Type} {xs : List α} {i : Nat} {x : α} (h : xs[i]? = some x) : xs.take (i + 1) = xs.take i ++ [x] := by
  rw [List.take_succ, h]; rfl
theorem itNe {A B : Prop} {x y : V} (h : x = y) (h2 : B) : if (!decide (x = y)) = true then A else B := by
  rw [decide_eq_true h]; exact iteF h2
theorem itNeN {A B : Prop} {x y : V} (h : x ≠ y) (h2 : A) : if (!decide (x = y)) = true then A else B := by
  rw [decide_eq_false h]; exact iteT h2
/-- a def that may raise -/
theorem funX {P : Program} {w : World} {K : PySem.W.Frag} {mg : Str → Option Value} {base : Heap} {CX : CXT} {x qual : Str} {st : Stmt} {f : Addr} {fd : FuncData} {N ps : List Str} {k : Nat} {sp : Sp} (F : Fun K x qual st f fd) (S : FnScope N ps (defScope st)) (len : ∀ vs H Q E, sp vs H Q E → vs.length = ps.length)
    (hbody : ∀ (cdv : Value) (A : Around) (outer : List Env) (s : Shared) (H : Hp) (vs : List V) (Q : VK) (E : XK), Room k (A.deeper (PyProof.Rows.envOfC qual (defScope st) s.heap.objs.size f cdv)) → sp vs H Q E →
      ∃ t, PSs (cxOf CX P w K mg base N qual (defScope st) f cdv A outer s H E) (defBody st) t ∧ t { nx := fun _ H' => Q .non H', rt := Q } (L2.start N vs) H) : FnOk P w K mg base CX (k + 1) f fd ps sp := by
  obtain ⟨oc, od, kV, doc, pm, an, cdv, ct, osl, rfl, lk, hcd⟩ := F.ex
  exact fn_of lk hcd S len fun A outer s H vs Q E hr hsp => hbody cdv A outer s H vs Q E hr hsp
theorem seq_upd {K : PySem.W.Frag} {H : Hp} {a b : Addr} {xs : List V} {u o : HO} (h : SqL K H a xs) (hb : H b = some u) (h1 : ∀ ys, u ≠ .lst ys) (h2 : ∀ c d, u ≠ .frz c d) : SqL K (upd H b o) a xs := by
  rcases h with (r | ⟨c, r⟩) | z
  · exact .inl (.inl (by rw [upd_ne (ne_of r hb (fun z => h1 _ z.symm))]; exact r))
  · exact .inl (.inr ⟨c, by rw [upd_ne (ne_of r hb (fun z => h2 _ _ z.symm))]; exact r⟩)
  · exact .inr z
theorem refs_get {ts : List Addr} {i : Nat} {v : V} (h : (ts.map V.ref)[i]? = some v) : ∃ t, ts[i]? = some t ∧ v = .ref t := by
  rw [List.getElem?_map] at h
  cases e : ts[i]? with
  | none => rw [e] at h; cases h
  | some t => rw [e] at h; exact ⟨t, rfl, (Option.some.inj h).symm⟩
theorem exc_same {H : Hp} {a d : Addr} {o1 o2 o3 o4 : HO} (ha : H a = none) (hd : H d = none) : Same H (upd (L2.del (upd (upd (upd H a o1) d o2) a o3) a) d o4) := fun b o e => by
  rw [upd_ne (ne_of_none e hd), L2.del_ne (ne_of_none e ha), upd_ne (ne_of_none e ha), upd_ne (ne_of_none e hd), upd_ne (ne_of_none e ha)]
  exact e
/-! ### Table(..) -/
theorem ok_good {z : Str} (h : Good z) : PyData.canLay0 (.str z) = true := by
  unfold PyData.canLay0 PyData.strOk
  rw [Array.all_eq_true]
  intro i hi
  have := h.let_ z.cps[i] (by rw [Array.mem_toList_iff]; exact Array.getElem_mem hi)
  exact decide_eq_true (by omega)
abbrev pd (ss : List Str) : List PyData := ss.map PyData.str
theorem lay_all {ss : List Str} (h : ∀ z ∈ ss, Good z) : PyData.canLayAll0 (pd ss) = true := by
  induction ss with
  | nil => rfl
  | cons a t ih =>
    show (PyData.canLay0 (.str a) && PyData.canLayAll0 (pd t)) = true
    rw [ok_good (h a List.mem_cons_self), ih fun z hz => h z (List.mem_cons_of_mem _ hz)]; rfl
theorem depth_pd : ∀ ss : List Str, PyData.depthAll (pd ss) ≤ 1
  | [] => by simp [PyData.depthAll]
  | n :: r => by
    have e : PyData.depthAll (r.map PyData.str) ≤ 1 := depth_pd r
    simp only [List.map_cons, PyData.depthAll, PyData.depth]
    omega
theorem shaped_pd {ss : List Str} (h : ∀ z ∈ ss, Good z) : SeqAt.shaped (.list (pd ss)) = true := by
  have h1 := depth_pd ss
  show (PyData.canLay0 (.list (pd ss)) && decide (PyData.depth (.list (pd ss)) ≤ 64)) = true
  rw [Bool.and_eq_true]
  exact ⟨by simp only [PyData.canLay0]; exact lay_all h, decide_eq_true (by simp only [PyData.depth]; omega)⟩
theorem dp_pd {K : PySem.W.Frag} {H : Hp} : ∀ ss : List Str, DpAll K H (sv ss) (pd ss)
  | [] => .nil
  | s :: r => .cons (.str s) (dp_pd r)
theorem eqv_pd {ss : List Str} (h : ∀ z ∈ ss, Good z) : PyData.eqv (.list (pd ss)) (.list (pd ss)) = true := SeqAt.eqv_refl _ (by simp only [PyData.canLay0]; exact lay_all h)
theorem dpAll_bl {K : PySem.W.Frag} {H : Hp} : ∀ bs : List Bool, DpAll K H (bs.map V.bl) (bs.map PyData.bool)
  | [] => .nil
  | b :: bs => .cons (.bl b) (dpAll_bl bs)
theorem exm_self {K : PySem.W.Frag} {C : Addr} (hb : PySem.W.subIn K (.ref C) (.type "BaseException") = some true) (hi : PySem.W.isClsIn K C = true) (ht : PySem.W.typeIn K (.ref C) = some (.type "type")) (hs : PySem.W.subIn K (.ref C) (.ref C) = some true) :
    PySem.W.exmOne K (.ref C) (.ref C) = some true := by
  unfold PySem.W.exmOne
  rw [hb, if_pos (by rfl)]
  show (if ((PySem.W.clsIn K C).isSome && PySem.W.typeIn K (.ref C) == some (.type "type")) = true then _ else _) = _
  rw [if_pos (by
    rw [ht]
    have : (PySem.W.clsIn K C).isSome = true := hi
    rw [this]; simp)]
  exact hs
end My
set_option maxRecDepth 100000
set_option maxHeartbeats 4000000
namespace My
open PySem L2
/-- where the defs and classes stand -/
structure Ad where
  C_FormReader : Addr
  C_RowsError : Addr
  C_Unknown : Addr
  C_Impossible : Addr
  C_BadText : Addr
  a_BadText_init : Addr
  d_BadText_init : FuncData
  a_is_name : Addr
  d_is_name : FuncData
  a_form_text : Addr
  d_form_text : FuncData
  a_read_form : Addr
  d_read_form : FuncData
  a_FormReader_init : Addr
  d_FormReader_init : FuncData
  a_FormReader_take : Addr
  d_FormReader_take : FuncData
  a_FormReader_result : Addr
  d_FormReader_result : FuncData
  a_FormReader_add_name : Addr
  d_FormReader_add_name : FuncData
  a_FormReader_close : Addr
  d_FormReader_close : FuncData
  a_law_cell : Addr
  d_law_cell : FuncData
  a_law_pool : Addr
  d_law_pool : FuncData
  a_law_word : Addr
  d_law_word : FuncData
  a_law_new : Addr
  d_law_new : FuncData
  a_law_form : Addr
  d_law_form : FuncData
  a_law_form_text : Addr
  d_law_form_text : FuncData
  a_law_closed : Addr
  d_law_closed : FuncData
  a_law_put : Addr
  d_law_put : FuncData
  a_law_described : Addr
  d_law_described : FuncData
  a_law_sign : Addr
  d_law_sign : FuncData
  a_law_edited : Addr
  d_law_edited : FuncData
  a_law_written : Addr
  d_law_written : FuncData
  a_law_answers : Addr
  d_law_answers : FuncData
  a_law : Addr
  d_law : FuncData
  e_LEAST_PARTS : Addr
  e_OPENERS : Addr
  e_CLOSERS : Addr
/-- what the top has written -/
structure Txt (P : Program) (w : World) (K : PySem.W.Frag) (mg : Str → Option Value) (A : Ad) : Prop where
  mg_FormReader : mg "FormReader" = some (.ref A.C_FormReader)
  cl_FormReader : Cls K A.C_FormReader
  sf_FormReader : PySem.W.selfFirst K A.C_FormReader = true
  mk_FormReader : Mk K A.C_FormReader A.a_FormReader_init
  c1_FormReader : PySem.W.findIn K (.ref A.C_FormReader) "__class__" = some (some (.builtin "object.__class__"))
  c3_FormReader : PySem.W.mroIn K A.C_FormReader (.type "object") = some true
  n_FormReader__names : NoAttr K A.C_FormReader "_names"
  n_FormReader__pieces : NoAttr K A.C_FormReader "_pieces"
  c2 : PySem.W.specialIn K (.builtin "object.__class__") "__get__" = some (some (.builtin "getset_descriptor.__get__"))
  c4 : PySem.W.takesIn K (.builtin "object.__class__") = some true
  mg_RowsError : mg "RowsError" = some (.ref A.C_RowsError)
  tp_RowsError : PySem.W.typeIn K (.ref A.C_RowsError) = some (.type "type")
  ic_RowsError : PySem.W.isClsIn K A.C_RowsError = true
  mg_Unknown : mg "Unknown" = some (.ref A.C_Unknown)
  tp_Unknown : PySem.W.typeIn K (.ref A.C_Unknown) = some (.type "type")
  ic_Unknown : PySem.W.isClsIn K A.C_Unknown = true
  mg_Impossible : mg "Impossible" = some (.ref A.C_Impossible)
  tp_Impossible : PySem.W.typeIn K (.ref A.C_Impossible) = some (.type "type")
  ic_Impossible : PySem.W.isClsIn K A.C_Impossible = true
  mg_BadText : mg "BadText" = some (.ref A.C_BadText)
  tp_BadText : PySem.W.typeIn K (.ref A.C_BadText) = some (.type "type")
  ic_BadText : PySem.W.isClsIn K A.C_BadText = true
  SC_BadText : SupCls P K mg A.C_BadText
  SF_BadText : SupFn P K s_BadText_init "BadText.__init__" A.C_BadText A.a_BadText_init A.d_BadText_init
  ii_BadText : PySem.W.findIn K (.ref A.C_BadText) "__init__" = some (some (.ref A.a_BadText_init))
  ti_BadText : PySem.W.typeIn K (.ref A.a_BadText_init) = some (.type "function")
  b_BadText_init : Binds K A.d_BadText_init ["self", "line"] []
  xn_BadText_line : PySem.W.findIn K (.ref A.C_BadText) "line" = some none
  xf_BadText : XfC K A.C_BadText
  ec_BadText : ExcC K A.C_BadText
  k_BadText : PySem.W.keepIn K (.ref A.C_BadText) = true
  bp_BadText : PySem.W.subIn K (.ref A.C_BadText) (.type "BaseException") = some true
  sv_BadText : PySem.W.subIn K (.ref A.C_BadText) (.type "ValueError") = some true
  ss_BadText : PySem.W.subIn K (.ref A.C_BadText) (.ref A.C_BadText) = some true
  su_BadText_RowsError : PySem.W.subIn K (.ref A.C_BadText) (.ref A.C_RowsError) = some true
  su_BadText_Unknown : PySem.W.subIn K (.ref A.C_BadText) (.ref A.C_Unknown) = some false
  su_BadText_Impossible : PySem.W.subIn K (.ref A.C_BadText) (.ref A.C_Impossible) = some false
  e1_BadText : PySem.W.findIn K (.ref A.C_BadText) "__getattribute__" = some (some (.builtin "BaseException.__getattribute__"))
  e2_BadText : PySem.W.findIn K (.ref A.C_BadText) "__getattr__" = some none
  e3_BadText : PySem.W.hasDictIn K A.C_BadText = true
  e4_BadText : PySem.W.findIn K (.ref A.C_BadText) "__class__" = some (some (.builtin "object.__class__"))
  e5_BadText : PySem.W.mroIn K A.C_BadText (.type "object") = some true
  mg_LONGEST_NAME : ∃ t : Tok, mg "LONGEST_NAME" = some (.int 8 t)
  mg_MOST_NAMES : ∃ t : Tok, mg "MOST_NAMES" = some (.int 12 t)
  n_abs : mg "abs" = none
  n_int : mg "int" = none
  n_isinstance : mg "isinstance" = none
  n_range : mg "range" = none
  n_len : mg "len" = none
  n_str : mg "str" = none
  n_tuple : mg "tuple" = none
  n_list : mg "list" = none
  n_ValueError : mg "ValueError" = none
  n_all : mg "all" = none
  n_bool : mg "bool" = none
  mg_LEAST_PARTS : mg "LEAST_PARTS" = some (.ref A.e_LEAST_PARTS)
  kd_LEAST_PARTS_0 : KDct K w A.e_LEAST_PARTS "loose" (.int 2)
  kd_LEAST_PARTS_1 : KDct K w A.e_LEAST_PARTS "firm" (.int 3)
  mg_OPENERS : mg "OPENERS" = some (.ref A.e_OPENERS)
  kd_OPENERS_0 : KDct K w A.e_OPENERS "(" (.str "loose")
  kd_OPENERS_1 : KDct K w A.e_OPENERS "[" (.str "firm")
  mg_CLOSERS : mg "CLOSERS" = some (.ref A.e_CLOSERS)
  kd_CLOSERS_0 : KDct K w A.e_CLOSERS ")" (.str "loose")
  kd_CLOSERS_1 : KDct K w A.e_CLOSERS "]" (.str "firm")
  F_is_name : Fun K "is_name" "is_name" s_is_name A.a_is_name A.d_is_name
  b_is_name : Binds K A.d_is_name ["text"] []
  mg_is_name : mg "is_name" = some (.ref A.a_is_name)
  F_form_text : Fun K "form_text" "form_text" s_form_text A.a_form_text A.d_form_text
  b_form_text : Binds K A.d_form_text ["form"] []
  mg_form_text : mg "form_text" = some (.ref A.a_form_text)
  F_read_form : Fun K "read_form" "read_form" s_read_form A.a_read_form A.d_read_form
  b_read_form : Binds K A.d_read_form ["text"] []
  mg_read_form : mg "read_form" = some (.ref A.a_read_form)
  F_FormReader_init : Fun K "__init__" "FormReader.__init__" s_FormReader_init A.a_FormReader_init A.d_FormReader_init
  b_FormReader_init : Binds K A.d_FormReader_init ["self"] []
  m_FormReader_init : Meth K A.C_FormReader "__init__" A.a_FormReader_init
  F_FormReader_take : Fun K "take" "FormReader.take" s_FormReader_take A.a_FormReader_take A.d_FormReader_take
  b_FormReader_take : Binds K A.d_FormReader_take ["self", "word"] []
  m_FormReader_take : Meth K A.C_FormReader "take" A.a_FormReader_take
  F_FormReader_result : Fun K "result" "FormReader.result" s_FormReader_result A.a_FormReader_result A.d_FormReader_result
  b_FormReader_result : Binds K A.d_FormReader_result ["self"] []
  m_FormReader_result : Meth K A.C_FormReader "result" A.a_FormReader_result
  F_FormReader_add_name : Fun K "_add_name" "FormReader._add_name" s_FormReader_add_name A.a_FormReader_add_name A.d_FormReader_add_name
  b_FormReader_add_name : Binds K A.d_FormReader_add_name ["self", "name"] []
  m_FormReader_add_name : Meth K A.C_FormReader "_add_name" A.a_FormReader_add_name
  F_FormReader_close : Fun K "_close" "FormReader._close" s_FormReader_close A.a_FormReader_close A.d_FormReader_close
  b_FormReader_close : Binds K A.d_FormReader_close ["self", "sign"] []
  m_FormReader_close : Meth K A.C_FormReader "_close" A.a_FormReader_close
  F_law_cell : Fun K "_law_cell" "_law_cell" s_law_cell A.a_law_cell A.d_law_cell
  b_law_cell : Binds K A.d_law_cell ["script", "k"] []
  mg_law_cell : mg "_law_cell" = some (.ref A.a_law_cell)
  F_law_pool : Fun K "_law_pool" "_law_pool" s_law_pool A.a_law_pool A.d_law_pool
  b_law_pool : Binds K A.d_law_pool ["script", "k", "count"] []
  mg_law_pool : mg "_law_pool" = some (.ref A.a_law_pool)
  F_law_word : Fun K "_law_word" "_law_word" s_law_word A.a_law_word A.d_law_word
  b_law_word : Binds K A.d_law_word ["pool", "at"] []
  mg_law_word : mg "_law_word" = some (.ref A.a_law_word)
  F_law_new : Fun K "_law_new" "_law_new" s_law_new A.a_law_new A.d_law_new
  b_law_new : Binds K A.d_law_new ["names", "word"] []
  mg_law_new : mg "_law_new" = some (.ref A.a_law_new)
  F_law_form : Fun K "_law_form" "_law_form" s_law_form A.a_law_form A.d_law_form
  b_law_form : Binds K A.d_law_form ["order", "pool", "start", "steps"] []
  mg_law_form : mg "_law_form" = some (.ref A.a_law_form)
  F_law_form_text : Fun K "_law_form_text" "_law_form_text" s_law_form_text A.a_law_form_text A.d_law_form_text
  b_law_form_text : Binds K A.d_law_form_text ["form"] []
  mg_law_form_text : mg "_law_form_text" = some (.ref A.a_law_form_text)
  F_law_closed : Fun K "_law_closed" "_law_closed" s_law_closed A.a_law_closed A.d_law_closed
  b_law_closed : Binds K A.d_law_closed ["levels", "sign"] []
  mg_law_closed : mg "_law_closed" = some (.ref A.a_law_closed)
  F_law_put : Fun K "_law_put" "_law_put" s_law_put A.a_law_put A.d_law_put
  b_law_put : Binds K A.d_law_put ["levels", "ended", "sign"] []
  mg_law_put : mg "_law_put" = some (.ref A.a_law_put)
  F_law_described : Fun K "_law_described" "_law_described" s_law_described A.a_law_described A.d_law_described
  b_law_described : Binds K A.d_law_described ["text"] []
  mg_law_described : mg "_law_described" = some (.ref A.a_law_described)
  F_law_sign : Fun K "_law_sign" "_law_sign" s_law_sign A.a_law_sign A.d_law_sign
  b_law_sign : Binds K A.d_law_sign ["draw"] []
  mg_law_sign : mg "_law_sign" = some (.ref A.a_law_sign)
  F_law_edited : Fun K "_law_edited" "_law_edited" s_law_edited A.a_law_edited A.d_law_edited
  b_law_edited : Binds K A.d_law_edited ["text", "pool", "at"] []
  mg_law_edited : mg "_law_edited" = some (.ref A.a_law_edited)
  F_law_written : Fun K "_law_written" "_law_written" s_law_written A.a_law_written A.d_law_written
  b_law_written : Binds K A.d_law_written ["draw"] []
  mg_law_written : mg "_law_written" = some (.ref A.a_law_written)
  F_law_answers : Fun K "_law_answers" "_law_answers" s_law_answers A.a_law_answers A.d_law_answers
  b_law_answers : Binds K A.d_law_answers ["text"] []
  mg_law_answers : mg "_law_answers" = some (.ref A.a_law_answers)
  F_law : Fun K "law" "law" s_law A.a_law A.d_law
  b_law : Binds K A.d_law ["script"] []
  mg_law : mg "law" = some (.ref A.a_law)
section
variable {P : Program} {w : World} {K : PySem.W.Frag} {mg : Str → Option Value} {base : Heap} {A : Ad}
/-- a promise under which nothing is raised -/
theorem quiet {k : Nat} {f : Addr} {fd : FuncData} {ps : List Str} {sp sp' : Sp} (F : FnOk P w K mg base (L2.CX P w) k f fd ps sp) (h : ∀ vs H Q E, sp' vs H Q E → sp vs H Q E0) : FnOk P w K mg base CX0 k f fd ps sp' :=
  ⟨fun vs H Q E q => F.len _ _ _ _ (h _ _ _ _ q), fun A outer s H args us vs Q E hr he hb hv hs => codeAny_mono (F.run A outer s H args us vs Q E0 hr he hb hv (h _ _ _ _ hs)) fun r s' g => by
    cases r with
    | ok fl => cases fl <;> exact g
    | error e => obtain ⟨_, _, _, _, _, _, _, _, _, _, _, _, z⟩ := g; exact z.elim⟩
theorem ls1 : Str.length ("line " : Str) = 5 := by decide
theorem ok_BadText (T : Txt P w K mg A) : FnOk P w K mg base CX0 1 A.a_BadText_init A.d_BadText_init ["self", "line"] (spX1 A.C_BadText "line" smallI) := by
  refine sup_ok T.SF_BadText ss_BadText_init T.SC_BadText rfl rfl rfl (fun _ => rfl) (fun _ => rfl) (fun _ => rfl) (fun vs H Q E h => ?_) (fun cda cc A' outer s H vs Q E hr h => ?_)
  · obtain ⟨a, y, rfl, _⟩ := h
    rfl
  · obtain ⟨a, y, rfl, ⟨i, rfl, hi⟩, ha, k⟩ := h
    have l1 := PyProof.Rows.int_text_len_1921 (small_log hi)
    refine ⟨a, _, _, rfl, ha, (pe_joined (PJ.cons pe_str (PJ.cons (pe_fmt (pv 1)) (PJ.cons pe_str PJ.nil)))), (pss_one (ps_ost (pv 0) (pv 1))), ?_⟩
    have l2 : Str.length (" is wrong" : Str) = 9 := by decide
    refine ⟨_, rfl, by rw [Str.empty_append, ls1]; decide, _, rfl, .inr ⟨i, rfl, small_log hi, _, rfl, ?_, _, rfl, ?_, (by decide : 1 ≤ 1000), ha, _, rfl, _, rfl, a, _, rfl, T.SC_BadText.ox, T.xn_BadText_line, .inl ⟨ha, fun d hd hne => k d hd hne⟩⟩⟩
    · rw [Str.empty_append, Str.length_append, ls1]
      exact Nat.le_trans (Nat.add_le_add_left l1 5) (by decide)
    · rw [Str.empty_append, Str.length_append, Str.length_append, ls1, l2]
      exact Nat.le_trans (Nat.add_le_add_right (Nat.add_le_add_left l1 5) 9) (by decide)
def spName : Sp := fun vs H Q _ => ∃ z, vs = [.str z] ∧ z.length ≤ 16000000 ∧ ∀ H', Same H H' → Q (.bl (okName z)) H'
theorem ok_name (T : Txt P w K mg A) : FnOk P w K mg base CX0 1 A.a_is_name A.d_is_name ["text"] spName := by
  refine T.F_is_name.ok sc_is_name (fun vs H Q E h => ?_) (fun cdv A' outer s H vs Q E hr h => ?_)
  · obtain ⟨z, rfl, _⟩ := h
    rfl
  · obtain ⟨z, rfl, g, k⟩ := h
    refine ⟨_, (pss_one (ps_ret (pe_and (pe_chain op_le op_le pe_int (pe_callB call_len_str (by rfl) T.n_len (by decide +kernel) (pa_cons (pv 0) pa_nil)) (pe_glob (v := .int 8) rfl T.mg_LONGEST_NAME.choose_spec ⟨_, rfl⟩)) (pe_one (pe_callB (cr_all rfl) (by rfl) T.n_all (by decide +kernel) (pa_cons (pe_lc (own := [("sign", 1)]) (g := gName 1) (tt := tYes) rfl sc_is_name.nd (pi_str (pv 0)) (blkOk_by (N := ["text", "sign"]) (sc := defScope s_is_name) (by decide +kernel)) (fun _ _ _ _ _ => (pg_name (i := 1) sc_is_name.nd rfl (Or.inl rfl))) (fun _ _ _ _ _ => pts_nil) (fun _ _ _ _ _ => (pe_chain op_le_str op_le_str pe_str (pv 1) pe_str))) pa_nil)))))), ?_⟩
    have hz : z.length ≤ sizeLine := Nat.le_trans g (by decide)
    refine ⟨_, rfl, z, rfl, hz, _, _, rfl, rfl, _, rfl, ?_⟩
    by_cases h1 : 1 ≤ z.length
    · refine itY (by omega) ⟨_, _, rfl, rfl, _, rfl, ?_⟩
      by_cases h8 : z.length ≤ 8
      · refine itY (by omega) ?_
        refine ⟨_, rfl, z, rfl, fun D hD => lc_it walk_str (PvS H D fun i => (z.cps.toList.take i).map fun c => V.bl (decide (97 ≤ c ∧ c ≤ 122))) (pv0 hD rfl) (fun _ _ _ _ => trivial) ?_ ?_⟩
        · rintro i x H30 H3 hi p ⟨rfl, c, hc, rfl⟩
          have hc' : z.cps.toList[i]? = some c := by rw [Array.getElem?_toList]; exact hc
          have push : ∀ b : Bool, b = decide (97 ≤ c ∧ c ≤ 122) → ∃ acc, H3 D = some (.lst acc) ∧ acc.length < sizeLine ∧ PvS H D (fun i => (z.cps.toList.take i).map fun c => V.bl (decide (97 ≤ c ∧ c ≤ 122))) (i + 1) (upd H3 D (.lst (acc ++ [V.bl b]))) := fun b hb => by
            refine p.push hD ?_ ?_
            · show (z.cps.toList.take (i + 1)).map _ = _
              rw [take_succ hc', List.map_append, hb]; rfl
            · show ((z.cps.toList.take i).map _).length ≤ 1000000
              rw [List.length_map, List.length_take]
              have h2 : z.cps.size = z.length := rfl
              rw [Array.length_toList]; omega
          refine ⟨rfl, ?_⟩
          refine ⟨_, rfl, _, _, rfl, rfl, _, rfl, ?_⟩
          by_cases ha : 97 ≤ c
          · refine ifT (by
              show (!decide ([c] < [97])) = true
              have : ¬ c < 97 := by omega
              simp [List.cons_lt_cons_iff] <;> omega) ⟨_, _, rfl, rfl, push _ ?_⟩
            show (!decide ([122] < [c])) = decide (97 ≤ c ∧ c ≤ 122)
            by_cases hb : c ≤ 122
            · rw [decide_eq_true (⟨ha, hb⟩ : 97 ≤ c ∧ c ≤ 122)]
              simp [List.cons_lt_cons_iff] <;> omega
            · rw [decide_eq_false (fun h : 97 ≤ c ∧ c ≤ 122 => hb h.2)]
              simp [List.cons_lt_cons_iff] <;> omega
          · refine ifF (by
              show (!decide ([c] < [97])) = false
              simp [List.cons_lt_cons_iff] <;> omega) (push _ ?_)
            rw [decide_eq_false (fun h : 97 ≤ c ∧ c ≤ 122 => ha h.1)]
            first | done | (show (!decide ([c] < [97])) = false; simp [List.cons_lt_cons_iff] <;> omega)
        · rintro H3 ⟨sm, h3⟩
          have h3 : H3 D = some (.lst ((z.cps.toList.take z.cps.size).map fun c => V.bl (decide (97 ≤ c ∧ c ≤ 122)))) := h3
          rw [List.take_of_length_le (by rw [Array.length_toList]; exact Nat.le_refl _)] at h3
          refine ⟨D, z.cps.toList.map fun c => decide (97 ≤ c ∧ c ≤ 122), rfl, SqL.of (by rw [List.map_map]; exact h3), ?_⟩
          have e : (z.cps.toList.map fun c => decide (97 ≤ c ∧ c ≤ 122)).all id = okName z := by
            unfold okName
            rw [decide_eq_true h1, decide_eq_true h8, List.all_map]; rfl
          rw [e]
          exact k H3 sm
      · refine itN (by omega) ?_
        have e : okName z = false := by unfold okName; rw [decide_eq_false h8]; simp
        rw [e] at k
        exact k H (Same.refl _)
    · refine itN (by omega) ?_
      have e : okName z = false := by unfold okName; rw [decide_eq_false h1]; rfl
      rw [e] at k
      exact ⟨_, rfl, iteF (k H (Same.refl _))⟩
end
end My
set_option maxRecDepth 100000
set_option maxHeartbeats 4000000
namespace My
open PySem L2
open My7 (Fm Sk La Pr)
/-! ### forms in the heap -/
/-- the text of a list of signs -/
def Tx (l : List Nat) : Str := ⟨l.toArray⟩
theorem Tx_tl (x : Str) : Tx (TL.tl x) = x := TL.mk_tl x
theorem tl_Tx (l : List Nat) : TL.tl (Tx l) = l := rfl
theorem Tx_inj {a b : List Nat} (h : Tx a = Tx b) : a = b := by rw [← tl_Tx a, h, tl_Tx]
theorem Tx_len (l : List Nat) : (Tx l).length = l.length := by
  show l.toArray.size = _
  simp
theorem Tx_app (a b : List Nat) : Tx (a ++ b) = Tx a ++ Tx b := by
  apply TL.ext_tl
  rw [TL.tl_append]
  rfl
def kd (k : Bool) : Str := if k then "firm" else "loose"
mutual
inductive Fo (H : Hp) : V → Fm → Prop
  | name (z : List Nat) : Fo H (.str (Tx z)) (.name z)
  | nil {a : Addr} : H a = some (.tup []) → Fo H (.ref a) (.node false [])
  | node {a : Addr} {k : Bool} {vs : List V} {ps : List Fm} : H a = some (.tup (.str (kd k) :: vs)) → ps ≠ [] → FoL H vs ps → Fo H (.ref a) (.node k ps)
inductive FoL (H : Hp) : List V → List Fm → Prop
  | nil : FoL H [] []
  | cons {v : V} {vs : List V} {f : Fm} {ps : List Fm} : Fo H v f → FoL H vs ps → FoL H (v :: vs) (f :: ps)
end
/-- tuples stay -/
def Kt (H H' : Hp) : Prop := ∀ a xs, H a = some (.tup xs) → H' a = some (.tup xs)
theorem Kt.of {H H' : Hp} (s : Same H H') : Kt H H' := fun a xs h => s _ _ h
theorem Kt.trans {H H' H'' : Hp} (s : Kt H H') (t : Kt H' H'') : Kt H H'' := fun a xs h => t _ _ (s _ _ h)
theorem Kt.upd {H : Hp} {q : Addr} {o : HO} (h : ∀ xs, H q ≠ some (.tup xs)) : Kt H (upd H q o) := fun a xs e => by
  rw [upd_ne (fun z => h xs (by rw [← z]; exact e))]; exact e
mutual
theorem Fo.keep {H H' : Hp} (e : Kt H H') : ∀ {f : Fm} {v : V}, Fo H v f → Fo H' v f
  | .name z, _, h => by cases h; exact .name z
  | .node k ps, _, h => by
    cases h with
    | nil h => exact .nil (e _ _ h)
    | node h n l => exact .node (e _ _ h) n (FoL.keep e l)
theorem FoL.keep {H H' : Hp} (e : Kt H H') : ∀ {ps : List Fm} {vs : List V}, FoL H vs ps → FoL H' vs ps
  | [], _, h => by cases h; exact .nil
  | f :: r, _, h => by
    cases h with
    | cons a b => exact .cons (Fo.keep e a) (FoL.keep e b)
end
theorem FoL.app {H : Hp} : ∀ {vs : List V} {ps : List Fm} {ws : List V} {qs : List Fm}, FoL H vs ps → FoL H ws qs → FoL H (vs ++ ws) (ps ++ qs)
  | _, _, _, _, .nil, h => h
  | _, _, _, _, .cons a b, h => .cons a (b.app h)
theorem FoL.one {H : Hp} {v : V} {f : Fm} (h : Fo H v f) : FoL H [v] [f] := .cons h .nil
theorem FoL.len {H : Hp} : ∀ {ps : List Fm} {vs : List V}, FoL H vs ps → vs.length = ps.length
  | [], _, h => by cases h; rfl
  | f :: r, _, h => by
    cases h with
    | cons a b => rw [List.length_cons, List.length_cons, b.len]
theorem FoL.get {H : Hp} : ∀ {ps : List Fm} {vs : List V}, FoL H vs ps → ∀ {i : Nat} {v : V}, vs[i]? = some v → ∃ f, ps[i]? = some f ∧ Fo H v f
  | [], _, h, i, v, e => by cases h; simp at e
  | f :: r, _, h, i, v, e => by
    cases h with
    | cons a b =>
      cases i with
      | zero => cases e; exact ⟨f, rfl, a⟩
      | succ i =>
        rw [List.getElem?_cons_succ] at e
        obtain ⟨g, x, y⟩ := b.get e
        exact ⟨g, by rw [List.getElem?_cons_succ]; exact x, y⟩
theorem FoL.take {H : Hp} : ∀ {ps : List Fm} {vs : List V}, FoL H vs ps → ∀ n, FoL H (vs.take n) (ps.take n)
  | [], _, h, n => by cases h; rw [List.take_nil, List.take_nil]; exact .nil
  | f :: r, _, h, n => by
    cases h with
    | cons a b =>
      cases n with
      | zero => exact .nil
      | succ n => exact .cons a (b.take n)
theorem FoL.drop {H : Hp} : ∀ {ps : List Fm} {vs : List V}, FoL H vs ps → ∀ n, FoL H (vs.drop n) (ps.drop n)
  | [], _, h, n => by cases h; rw [List.drop_nil, List.drop_nil]; exact .nil
  | f :: r, _, h, n => by
    cases h with
    | cons a b =>
      cases n with
      | zero => exact .cons a b
      | succ n => exact b.drop n
/-! ### depth and size -/
mutual
def dep : Fm → Nat
  | .name _ => 0
  | .node _ ps => depL ps + 1
def depL : List Fm → Nat
  | [] => 0
  | f :: r => max (dep f) (depL r)
end
theorem depL_mem : ∀ {ps : List Fm} {f : Fm}, f ∈ ps → dep f ≤ depL ps
  | [], _, h => nomatch h
  | g :: r, f, h => by
    show dep f ≤ max (dep g) (depL r)
    rcases List.mem_cons.mp h with rfl | h
    · exact Nat.le_max_left _ _
    · exact Nat.le_trans (depL_mem h) (Nat.le_max_right _ _)
theorem nmL_app : ∀ (a b : List Fm), My7.nmL (a ++ b) = My7.nmL a ++ My7.nmL b
  | [], b => rfl
  | f :: r, b => by
    show My7.nmF f ++ My7.nmL (r ++ b) = (My7.nmF f ++ My7.nmL r) ++ My7.nmL b
    rw [nmL_app r b, List.append_assoc]
theorem WFL_app : ∀ {a b : List Fm}, My7.WFL (a ++ b) ↔ My7.WFL a ∧ My7.WFL b
  | [], b => ⟨fun h => ⟨trivial, h⟩, fun h => h.2⟩
  | f :: r, b => by
    show (My7.WF f ∧ My7.WFL (r ++ b)) ↔ (My7.WF f ∧ My7.WFL r) ∧ My7.WFL b
    rw [WFL_app (a := r), and_assoc]
mutual
theorem dep_nm : ∀ (f : Fm), My7.WF f → dep f + 1 ≤ (My7.nmF f).length
  | .name z, _ => Nat.le_refl _
  | .node k ps, h => by
    obtain ⟨h1, h2⟩ : (if k then 3 else 2) ≤ ps.length ∧ My7.WFL ps := h
    have h3 : 2 ≤ ps.length := by cases k <;> simp at h1 <;> omega
    have := depL_nm ps h2
    show depL ps + 1 + 1 ≤ (My7.nmL ps).length
    omega
theorem depL_nm : ∀ (ps : List Fm), My7.WFL ps → (depL ps + ps.length ≤ (My7.nmL ps).length)
  | [], _ => Nat.le_refl _
  | f :: r, h => by
    obtain ⟨h1, h2⟩ : My7.WF f ∧ My7.WFL r := h
    have a := dep_nm f h1
    have b := depL_nm r h2
    show max (dep f) (depL r) + (r.length + 1) ≤ (My7.nmF f ++ My7.nmL r).length
    rw [List.length_append]
    rcases Nat.le_total (dep f) (depL r) with c | c
    · rw [Nat.max_eq_right c]; omega
    · rw [Nat.max_eq_left c]; omega
end
/-! ### forms as data -/
def hdD (k : Bool) (ps : List Fm) : List PyData := if ps.isEmpty then [] else [.str (kd k)]
mutual
def dF : Fm → PyData
  | .name z => .str (Tx z)
  | .node k ps => .tuple (hdD k ps ++ dL ps)
def dL : List Fm → List PyData
  | [] => []
  | f :: r => dF f :: dL r
end
mutual
theorem Fo.dp {K : PySem.W.Frag} {H : Hp} : ∀ {f : Fm} {v : V}, Fo H v f → Dp K H v (dF f)
  | .name z, _, h => by cases h; exact .str _
  | .node k ps, _, h => by
    cases h with
    | nil h => exact .tup (xs := []) (SqT.of h) .nil
    | node h n l =>
      cases ps with
      | nil => exact absurd rfl n
      | cons f r => exact .tup (SqT.of h) (.cons (.str _) (FoL.dp l))
theorem FoL.dp {K : PySem.W.Frag} {H : Hp} : ∀ {ps : List Fm} {vs : List V}, FoL H vs ps → DpAll K H vs (dL ps)
  | [], _, h => by cases h; exact .nil
  | f :: r, _, h => by
    cases h with
    | cons a b => exact .cons (Fo.dp a) (FoL.dp b)
end
def LetF (f : Fm) : Prop := ∀ z ∈ My7.nmF f, z.all My7.letter = true
def LetL (ps : List Fm) : Prop := ∀ z ∈ My7.nmL ps, z.all My7.letter = true
theorem strOk_let {z : List Nat} (h : z.all My7.letter = true) : PyData.canLay0 (.str (Tx z)) = true := by
  unfold PyData.canLay0 PyData.strOk
  rw [Array.all_eq_true]
  intro i hi
  rw [List.all_eq_true] at h
  have hm : (Tx z).cps[i] ∈ z := by
    have : (Tx z).cps[i] ∈ (Tx z).cps.toList := by rw [Array.mem_toList_iff]; exact Array.getElem_mem hi
    exact this
  have := of_decide_eq_true (h _ hm)
  exact decide_eq_true (by omega)
theorem kd_ok : ∀ k : Bool, PyData.canLay0 (.str (kd k)) = true := by decide +kernel
theorem layAll_app : ∀ {a b : List PyData}, PyData.canLayAll0 (a ++ b) = (PyData.canLayAll0 a && PyData.canLayAll0 b)
  | [], b => rfl
  | x :: r, b => by
    show (PyData.canLay0 x && PyData.canLayAll0 (r ++ b)) = ((PyData.canLay0 x && PyData.canLayAll0 r) && PyData.canLayAll0 b)
    rw [layAll_app, Bool.and_assoc]
theorem hdD_ok (k : Bool) (ps : List Fm) : PyData.canLayAll0 (hdD k ps) = true ∧ PyData.depthAll (hdD k ps) = 0 := by
  unfold hdD
  split
  · exact ⟨rfl, rfl⟩
  · refine ⟨?_, rfl⟩
    show (PyData.canLay0 (.str (kd k)) && true) = true
    rw [kd_ok]; rfl
mutual
theorem lay_dF : ∀ (f : Fm), LetF f → PyData.canLay0 (dF f) = true
  | .name z, h => strOk_let (h z (List.mem_singleton.mpr rfl))
  | .node k ps, h => by
    show PyData.canLayAll0 (hdD k ps ++ dL ps) = true
    rw [layAll_app, (hdD_ok k ps).1, lay_dL ps h]; rfl
theorem lay_dL : ∀ (ps : List Fm), LetL ps → PyData.canLayAll0 (dL ps) = true
  | [], _ => rfl
  | f :: r, h => by
    show (PyData.canLay0 (dF f) && PyData.canLayAll0 (dL r)) = true
    rw [lay_dF f fun z hz => h z (List.mem_append_left _ hz), lay_dL r fun z hz => h z (List.mem_append_right _ hz)]; rfl
end
theorem depthAll_app : ∀ (a b : List PyData), PyData.depthAll (a ++ b) = max (PyData.depthAll a) (PyData.depthAll b)
  | [], b => by simp [PyData.depthAll]
  | x :: r, b => by
    show max (PyData.depth x) (PyData.depthAll (r ++ b)) = max (max (PyData.depth x) (PyData.depthAll r)) (PyData.depthAll b)
    rw [depthAll_app r b, Nat.max_assoc]
mutual
theorem depth_dF : ∀ (f : Fm), PyData.depth (dF f) = dep f
  | .name z => rfl
  | .node k ps => by
    show PyData.depthAll (hdD k ps ++ dL ps) + 1 = depL ps + 1
    rw [depthAll_app, (hdD_ok k ps).2, depth_dL ps, Nat.zero_max]
theorem depth_dL : ∀ (ps : List Fm), PyData.depthAll (dL ps) = depL ps
  | [] => rfl
  | f :: r => by
    show max (PyData.depth (dF f)) (PyData.depthAll (dL r)) = max (dep f) (depL r)
    rw [depth_dF f, depth_dL r]
end
theorem shaped_dF {f : Fm} (h : LetF f) (hd : dep f ≤ 64) : SeqAt.shaped (dF f) = true := by
  show (PyData.canLay0 (dF f) && decide (PyData.depth (dF f) ≤ 64)) = true
  rw [lay_dF f h, depth_dF, decide_eq_true hd]; rfl
theorem eqv_dF {f : Fm} (h : LetF f) : PyData.eqv (dF f) (dF f) = true := SeqAt.eqv_refl _ (lay_dF f h)
mutual
theorem WF_let : ∀ (f : Fm), My7.WF f → LetF f
  | .name z, h => fun y hy => by
    cases List.mem_singleton.mp hy
    exact h.2
  | .node k ps, h => WFL_let ps h.2
theorem WFL_let : ∀ (ps : List Fm), My7.WFL ps → LetL ps
  | [], _ => fun y hy => nomatch hy
  | f :: r, h => fun y hy => by
    rcases List.mem_append.mp hy with hy | hy
    · exact WF_let f h.1 y hy
    · exact WFL_let r h.2 y hy
end
/-! ### open pieces in the heap -/
def lev (s : Sk) : List (Option Bool × List Fm) := s.open_.map (fun x => (some x.1, x.2)) ++ [(none, s.base)]
def hdK : Option Bool → List V
  | none => []
  | some k => [.str (kd k)]
def AtL (H : Hp) (q : Addr) (l : Option Bool × List Fm) : Prop := ∃ vs, H q = some (.lst (hdK l.1 ++ vs)) ∧ FoL H vs l.2
def Lv (H : Hp) : List Addr → List (Option Bool × List Fm) → Prop
  | [], [] => True
  | q :: us, l :: ls => AtL H q l ∧ Lv H us ls
  | _, _ => False
structure SkAt (H : Hp) (us : List Addr) (s : Sk) : Prop where
  nd : us.Nodup
  at_ : Lv H us (lev s)
theorem Lv.len {H : Hp} : ∀ {us : List Addr} {ls : List (Option Bool × List Fm)}, Lv H us ls → us.length = ls.length
  | [], [], _ => rfl
  | q :: us, l :: ls, h => by rw [List.length_cons, List.length_cons, h.2.len]
theorem Lv.keep {H H' : Hp} (e : Kt H H') : ∀ {us : List Addr} {ls : List (Option Bool × List Fm)}, (∀ q ∈ us, ∀ xs, H q = some (.lst xs) → H' q = some (.lst xs)) → Lv H us ls → Lv H' us ls
  | [], [], _, _ => trivial
  | q :: us, l :: ls, k, ⟨⟨vs, h1, h2⟩, h3⟩ => ⟨⟨vs, k q List.mem_cons_self _ h1, h2.keep e⟩, h3.keep e fun p hp => k p (List.mem_cons_of_mem _ hp)⟩
theorem Lv.same {H H' : Hp} (e : Same H H') {us : List Addr} {ls : List (Option Bool × List Fm)} (h : Lv H us ls) : Lv H' us ls := h.keep (Kt.of e) fun q _ xs => e _ _
theorem Lv.upd {H : Hp} {q : Addr} {o : HO} {us : List Addr} {ls : List (Option Bool × List Fm)} (h : Lv H us ls) (hq : q ∉ us) (ht : ∀ xs, H q ≠ some (.tup xs)) : Lv (upd H q o) us ls :=
  h.keep (Kt.upd ht) fun p hp xs e => by rw [upd_ne (fun z => hq (by rw [← z]; exact hp))]; exact e
theorem lev_put {s : Sk} {f : Fm} {o : Option Bool} {ps : List Fm} {ls : List (Option Bool × List Fm)} (h : lev s = (o, ps) :: ls) : lev (s.put f) = (o, ps ++ [f]) :: ls := by
  obtain ⟨base, op⟩ := s
  cases op with
  | nil => cases h; rfl
  | cons a r => cases h; rfl
theorem lev_push (s : Sk) (c : Nat) : lev (s.push c) = (some (c == 91), []) :: lev s := rfl
theorem lev_open {s : Sk} {k : Bool} {ps : List Fm} {r : List (Bool × List Fm)} (h : s.open_ = (k, ps) :: r) : lev s = (some k, ps) :: lev { s with open_ := r } := by
  unfold lev; rw [h]; rfl
theorem lev_base {s : Sk} (h : s.open_ = []) : lev s = [(none, s.base)] := by
  unfold lev; rw [h]; rfl
/-- the innermost piece -/
theorem SkAt.top {H : Hp} {us : List Addr} {s : Sk} (h : SkAt H us s) : ∃ q ut o ps ls vs, us = q :: ut ∧ lev s = (o, ps) :: ls ∧ H q = some (.lst (hdK o ++ vs)) ∧ FoL H vs ps ∧ Lv H ut ls ∧ q ∉ ut ∧ ut.Nodup := by
  obtain ⟨nd, a⟩ := h
  cases us with
  | nil =>
    unfold lev at a
    cases e : s.open_ with
    | nil => rw [e] at a; exact a.elim
    | cons x r => rw [e] at a; exact a.elim
  | cons q ut =>
    have nd := List.nodup_cons.mp nd
    cases e : lev s with
    | nil => rw [e] at a; exact a.elim
    | cons l ls =>
      rw [e] at a
      obtain ⟨⟨vs, h1, h2⟩, h3⟩ := a
      exact ⟨q, ut, l.1, l.2, ls, vs, rfl, rfl, h1, h2, h3, nd.1, nd.2⟩
theorem SkAt.put {H : Hp} {q : Addr} {ut : List Addr} {s : Sk} {o : Option Bool} {ps : List Fm} {ls : List (Option Bool × List Fm)} {vs : List V} {v : V} {f : Fm} (hl : lev s = (o, ps) :: ls) (hq : H q = some (.lst (hdK o ++ vs))) (hf : FoL H vs ps) (h : Lv H ut ls) (hn : q ∉ ut) (nd : ut.Nodup) (hv : Fo H v f) :
    SkAt (upd H q (.lst ((hdK o ++ vs) ++ [v]))) (q :: ut) (s.put f) := by
  have ht : ∀ xs, H q ≠ some (.tup xs) := fun xs e => by rw [hq] at e; cases e
  refine ⟨List.nodup_cons.mpr ⟨hn, nd⟩, ?_⟩
  rw [lev_put hl]
  exact ⟨⟨vs ++ [v], by rw [upd_same, List.append_assoc], (hf.keep (Kt.upd ht)).app (.one (hv.keep (Kt.upd ht)))⟩, h.upd hn ht⟩
theorem SkAt.same {H H' : Hp} {us : List Addr} {s : Sk} (h : SkAt H us s) (e : Same H H') : SkAt H' us s := ⟨h.nd, h.at_.same e⟩
theorem SkAt.upd {H : Hp} {q : Addr} {o : HO} {us : List Addr} {s : Sk} (h : SkAt H us s) (hq : q ∉ us) (ht : ∀ xs, H q ≠ some (.tup xs)) : SkAt (upd H q o) us s := ⟨h.nd, h.at_.upd hq ht⟩
end My
set_option maxRecDepth 100000
set_option maxHeartbeats 4000000
namespace My
open PySem L2
open My7 (Fm Sk La Pr showF showL joinSp sgn csgn)
theorem ls_sp : (" " : Str).length = 1 := by decide
theorem joinL_sp : ∀ l : List (List Nat), TL.joinL [32] l = joinSp l
  | [] => rfl
  | [p] => rfl
  | p :: q :: r => by
    show p ++ ([32] ++ TL.joinL [32] (q :: r)) = p ++ 32 :: joinSp (q :: r)
    rw [joinL_sp (q :: r)]; rfl
theorem join_Tx (l : List (List Nat)) : Txt.join " " (l.map Tx) = Tx (joinSp l) := by
  rw [TL.join_eq]
  apply TL.ext_tl
  rw [TL.tl_join, tl_sp, List.map_map, ← joinL_sp]
  congr 1
  rw [show TL.tl ∘ Tx = id from funext fun l => rfl, List.map_id]
theorem joinSp_len : ∀ l : List (List Nat), (l.map List.length).sum + l.length ≤ (joinSp l).length + 1
  | [] => Nat.zero_le _
  | [p] => by simp [joinSp]
  | p :: q :: r => by
    have := joinSp_len (q :: r)
    show p.length + ((q :: r).map List.length).sum + ((q :: r).length + 1) ≤ (p ++ 32 :: joinSp (q :: r)).length + 1
    have e : (p ++ 32 :: joinSp (q :: r)).length = p.length + ((joinSp (q :: r)).length + 1) := by rw [List.length_append, List.length_cons]
    omega
theorem part_len {ps : List Fm} {f : Fm} (h : f ∈ ps) : (showF f).length ≤ (joinSp (showL ps)).length := by
  have h1 := joinSp_len (showL ps)
  have h2 : (showF f).length ≤ ((showL ps).map List.length).sum := sum_ge (List.mem_map.mpr ⟨_, by rw [My7.showL_map]; exact List.mem_map.mpr ⟨f, h, rfl⟩, rfl⟩)
  have h3 : 0 < (showL ps).length := by rw [My7.showL_map, List.length_map]; exact List.length_pos_of_mem h
  omega
theorem node_len (k : Bool) (ps : List Fm) : (showF (.node k ps)).length = (joinSp (showL ps)).length + 2 := by
  show (sgn k :: (joinSp (showL ps) ++ [csgn k])).length = _
  rw [List.length_cons, List.length_append]; rfl
theorem showL_len (ps : List Fm) : (showL ps).length = ps.length := by rw [My7.showL_map, List.length_map]
theorem slA_tail {K : PySem.W.Frag} {H : Hp} {a : Addr} {xs : List V} {Q : VK} (h : SqT K H a xs) (k : ∀ q H1, Same H H1 → SqT K H1 q xs.tail → Q (.ref q) H1) : rSlA K (.ref a) (some 1) none H Q := by
  have e1 : HT.sIx xs.length 0 (some 1) = min 1 xs.length := HT.sIx_nat _ _ 1
  have e : cutV xs (some 1) none = xs.tail := by
    cases xs with
    | nil => rfl
    | cons x r => rw [show (1 : Int) = ((1 : Nat) : Int) from rfl, cut_drop (by simp), List.drop_one]
  refine ⟨a, xs, rfl, h, fun z => ?_, fun z p hp => ?_⟩
  · have : xs = [] := by
      have := z.1
      rw [e1] at this
      exact List.eq_nil_of_length_eq_zero (by omega)
    subst this
    exact k a H (Same.refl _) h
  · rw [e]
    exact k p _ (same_new hp) (SqT.of upd_same)
theorem slA_head {K : PySem.W.Frag} {H : Hp} {a : Addr} {xs : List V} {Q : VK} (h : SqT K H a xs) (k : ∀ q H1, Same H H1 → SqT K H1 q (xs.take 1) → Q (.ref q) H1) : rSlA K (.ref a) none (some 1) H Q := by
  have e1 : HT.sIx xs.length xs.length (some 1) = min 1 xs.length := HT.sIx_nat _ _ 1
  have e : cutV xs none (some 1) = xs.take 1 := by
    cases xs with
    | nil => rfl
    | cons x r => rw [show (1 : Int) = ((1 : Nat) : Int) from rfl, cut_take (by simp)]
  refine ⟨a, xs, rfl, h, fun z => ?_, fun z p hp => ?_⟩
  · have : xs.take 1 = xs := by
      have := z.2
      rw [e1] at this
      exact List.take_of_length_le (by omega)
    rw [this] at k
    exact k a H (Same.refl _) h
  · rw [e]
    exact k p _ (same_new hp) (SqT.of upd_same)
theorem Fo.inv {H : Hp} {v : V} {k : Bool} {ps : List Fm} (h : Fo H v (.node k ps)) : ∃ a xs, v = .ref a ∧ H a = some (.tup xs) ∧ FoL H xs.tail ps ∧ ((xs = [] ∧ k = false ∧ ps = []) ∨ (∃ vs, xs = .str (kd k) :: vs ∧ ps ≠ [])) := by
  cases h with
  | nil h => exact ⟨_, [], rfl, h, .nil, .inl ⟨rfl, rfl, rfl⟩⟩
  | node h n l => exact ⟨_, _, rfl, h, l, .inr ⟨_, rfl, n⟩⟩
/-- the texts of the first i parts -/
def tps (ps : List Fm) (i : Nat) : List V := ((ps.take i).map fun f => Tx (showF f)).map V.str
theorem tps_all (ps : List Fm) : tps ps ps.length = ((showL ps).map Tx).map V.str := by
  unfold tps; rw [List.take_length, My7.showL_map, List.map_map, List.map_map, List.map_map]; rfl
theorem tps_fit {ps : List Fm} (h : (joinSp (showL ps)).length ≤ 900000) : (((showL ps).map Tx).map (·.length)).sum + ((showL ps).map Tx).length * (" " : Str).length ≤ 16777216 := by
  have := joinSp_len (showL ps)
  rw [ls_sp, Nat.mul_one, List.length_map, List.map_map, show ((fun x : Str => x.length) ∘ Tx) = List.length from funext fun l => Tx_len l]
  omega
section
variable {P : Program} {w : World} {K : PySem.W.Frag} {mg : Str → Option Value} {base : Heap} {A : Ad}
def spFT (n : Nat) : Sp := fun vs H Q _ => ∃ v f, vs = [v] ∧ Fo H v f ∧ dep f ≤ n ∧ (showF f).length ≤ 900000 ∧ ∀ H', Same H H' → Q (.str (Tx (showF f))) H'
theorem FT_len {n : Nat} {vs : List V} {H : Hp} {Q : VK} {E : XK} (h : spFT n vs H Q E) : vs.length = 1 := by
  obtain ⟨v, f, rfl, _⟩ := h
  rfl
theorem ok_form_text (T : Txt P w K mg A) : ∀ n, FnOk P w K mg base CX0 (n + 1) A.a_form_text A.d_form_text ["form"] (spFT n)
  | 0 => by
    refine T.F_form_text.ok sc_form_text (fun vs H Q E h => FT_len h) (fun cdv A' outer s H vs Q E hr h => ?_)
    obtain ⟨v, f, rfl, hf, hd, hl, k⟩ := h
    refine ⟨_, (pss_cons (ps_if (pt_val (pe_callB call_isi (by rfl) T.n_isinstance (by decide +kernel) (pa_cons (pv 0) (pa_cons (pe_bltn (v := .ty "str") (by rfl) T.n_str (by decide +kernel) rfl) pa_nil)))) (pss_one (ps_ret (pv 0))) pss_nil)
      (pss_cons ps_never (pss_cons ps_never (pss_one ps_never)))), ?_⟩
    cases hf with
    | name z => exact ⟨_, rfl, _, _, _, _, true, rfl, .ty _, .base (.str _), kit_ty (by decide +kernel), true, rfl, iteT ⟨_, rfl, k H (Same.refl _)⟩⟩
    | nil h => exact absurd hd (Nat.not_succ_le_zero _)
    | node h n l => exact absurd hd (Nat.not_succ_le_zero _)
  | n + 1 => by
    have G_form_text := ok_form_text T n
    refine T.F_form_text.ok sc_form_text (fun vs H Q E h => FT_len h) (fun cdv A' outer s H vs Q E hr h => ?_)
    obtain ⟨v, f, rfl, hf, hd, hl, k⟩ := h
    refine ⟨_, (pss_cons (ps_if (pt_val (pe_callB call_isi (by rfl) T.n_isinstance (by decide +kernel) (pa_cons (pv 0) (pa_cons (pe_bltn (v := .ty "str") (by rfl) T.n_str (by decide +kernel) rfl) pa_nil)))) (pss_one (ps_ret (pv 0))) pss_nil)
      (pss_cons (ps_set (i := 1) sc_form_text.nd rfl (Or.inl rfl) (pe_join pe_str (pe_lc (own := [("part", 2)]) (g := gName 2) (tt := tYes) rfl sc_form_text.nd (pi_tup (pe_slice sl_tupA (pv 0) (po_some pe_int) po_none)) (blkOk_by (N := ["form", "inside", "part"]) (sc := defScope s_form_text) (by decide +kernel)) (fun _ _ _ _ _ => (pg_name (i := 2) sc_form_text.nd rfl (Or.inl rfl))) (fun _ _ _ _ _ => pts_nil) (fun _ _ _ _ _ => (pe_call G_form_text hr rfl T.mg_form_text T.F_form_text.kp T.b_form_text .nil pass0 (pa_cons (pv 2) pa_nil))))))
      (pss_cons (ps_if (pt_cmpR (op_eqD hr.units) (pe_slice sl_tupA (pv 0) po_none (po_some pe_int)) (pe_tup (pa_cons pe_str pa_nil)) (nomark _)) (pss_one (ps_ret (pe_joined (PJ.cons pe_str (PJ.cons (pe_fmt (pv 1)) (PJ.cons pe_str PJ.nil)))))) pss_nil)
      (pss_one (ps_ret (pe_joined (PJ.cons pe_str (PJ.cons (pe_fmt (pv 1)) (PJ.cons pe_str PJ.nil))))))))), ?_⟩
    cases f with
    | name z => cases hf; exact ⟨_, rfl, _, _, _, _, true, rfl, .ty _, .base (.str _), kit_ty (by decide +kernel), true, rfl, iteT ⟨_, rfl, k H (Same.refl _)⟩⟩
    | node b ps =>
      obtain ⟨a, xs, rfl, h, l, hx⟩ := hf.inv
      have hd : depL ps ≤ n := Nat.le_of_succ_le_succ hd
      have nl := node_len b ps
      refine ⟨_, rfl, _, _, _, _, false, rfl, .ty _, .base (.tup h), kit_ty (by decide +kernel), false, rfl, iteF ?_⟩
      refine ⟨⟨_, rfl⟩, _, rfl, _, rfl, ?_⟩
      dsimp only [tNoPart]
      refine slA_tail (SqT.of h) fun q H1 s1 hq => ?_
      refine ⟨q, rfl, ⟨_, hq⟩, fun D hD => lc_it walk_tup (PvS H1 D (tps ps)) (pv0 hD rfl) (fun i H2 _ p => p.1.tup hq) ?_ ?_⟩
      · rintro i x H30 H3 hi p ⟨rfl, hx⟩
        obtain ⟨f, ef, hf⟩ := (l.keep ((Kt.of s1).trans (Kt.of p.1))).get hx
        have mf := List.mem_of_getElem? ef
        have := part_len mf
        refine ⟨rfl, _, rfl, x, f, rfl, hf, Nat.le_trans (depL_mem mf) hd, by omega, fun H4 s4 => ?_⟩
        have q4 := (p.more s4).push (y := .str (Tx (showF f))) hD (by unfold tps; rw [take_succ ef, List.map_append, List.map_append]; rfl) (by unfold tps; rw [List.length_map, List.length_map, List.length_take]; have := joinSp_len (showL ps); rw [showL_len] at this; omega)
        exact q4
      · rintro H3 ⟨s3, h3⟩
        rw [show xs.tail.length = ps.length from l.len, tps_all] at h3
        refine ⟨_, D, _, rfl, rfl, .inl (SqL.of h3), tps_fit (by omega), ?_⟩
        rw [join_Tx]
        have s13 := s1.trans s3
        refine ⟨_, rfl, ?_⟩
        dsimp only [tNoPart]
        refine ⟨_, rfl, ?_⟩
        refine slA_head (SqT.of (s13 _ _ h)) fun q2 H4 s4 hq2 => ?_
        refine ⟨by show 1 ≤ sizeLine; decide, fun t ht => ?_⟩
        have st := same_new (o := .tup [V.str "firm"]) ht
        refine ⟨.tuple (if xs = [] then [] else [.str (kd b)]), .tuple [.str "firm"], ?_, .tup (xs := [V.str "firm"]) (SqT.of upd_same) (.cons (.str _) .nil), ?_, by decide +kernel, ?_⟩
        · refine .tup (st.tup hq2) ?_
          rcases hx with ⟨rfl, _, _⟩ | ⟨vs, rfl, _⟩
          · exact .nil
          · exact .cons (.str _) .nil
        · rcases hx with ⟨rfl, _, _⟩ | ⟨vs, rfl, _⟩
          · rw [if_pos rfl]; decide +kernel
          · rw [if_neg (List.cons_ne_nil _ _)]
            cases b <;> decide +kernel
        have fin : ∀ (o c : Str), o = Tx [sgn b] → c = Tx [csgn b] → ∀ H', Same H H' → (Str.empty ++ o).length ≤ sizeLine ∧ (Tx (joinSp (showL ps))).length ≤ sizeLine ∧ ((Str.empty ++ o) ++ Tx (joinSp (showL ps))).length ≤ sizeLine ∧ (((Str.empty ++ o) ++ Tx (joinSp (showL ps))) ++ c).length ≤ sizeLine ∧ Q (.str (((Str.empty ++ o) ++ Tx (joinSp (showL ps))) ++ c)) H' := fun o c eo ec H' s' => by
          have e : Str.empty ++ o ++ Tx (joinSp (showL ps)) ++ c = Tx (showF (.node b ps)) := by
            rw [eo, ec, Str.empty_append, ← Tx_app, ← Tx_app]
            show Tx (([sgn b] ++ joinSp (showL ps)) ++ [csgn b]) = Tx (sgn b :: (joinSp (showL ps) ++ [csgn b]))
            rw [List.append_assoc]; rfl
          have lo : o.length = 1 := by rw [eo]; exact Tx_len _
          have lc : c.length = 1 := by rw [ec]; exact Tx_len _
          have lj := Tx_len (joinSp (showL ps))
          have big : 1000000 ≤ sizeLine := by decide
          refine ⟨?_, ?_, ?_, ?_, ?_⟩
          · rw [Str.empty_append]; omega
          · omega
          · rw [Str.length_append, Str.empty_append]; omega
          · rw [Str.length_append, Str.length_append, Str.empty_append]; omega
          · rw [e]; exact k H' s'
        refine ⟨_, rfl, ?_⟩
        have s5 := (s13.trans s4).trans st
        cases b with
        | true =>
          have hne : xs ≠ [] := fun e => by
            rcases hx with ⟨_, z, _⟩ | ⟨vs, z, _⟩
            · cases z
            · rw [e] at z; cases z
          rw [if_neg hne]
          obtain ⟨f1, f2, f3, f4, f5⟩ := fin "[" "]" (by decide) (by decide) _ s5
          exact ifT (by decide +kernel) ⟨_, rfl, f1, _, rfl, .inl ⟨_, rfl, f2, _, rfl, f3, _, rfl, f4, f5⟩⟩
        | false =>
          obtain ⟨f1, f2, f3, f4, f5⟩ := fin "(" ")" (by decide) (by decide) _ s5
          exact ifF (by
            rcases hx with ⟨rfl, _, _⟩ | ⟨vs, rfl, _⟩
            · rw [if_pos rfl]; decide +kernel
            · rw [if_neg (List.cons_ne_nil _ _)]; decide +kernel) ⟨_, rfl, f1, _, rfl, .inl ⟨_, rfl, f2, _, rfl, f3, _, rfl, f4, f5⟩⟩
/-- the law's own -/
theorem ok_law_form_text (T : Txt P w K mg A) : ∀ n, FnOk P w K mg base CX0 (n + 1) A.a_law_form_text A.d_law_form_text ["form"] (spFT n)
  | 0 => by
    refine T.F_law_form_text.ok sc_law_form_text (fun vs H Q E h => FT_len h) (fun cdv A' outer s H vs Q E hr h => ?_)
    obtain ⟨v, f, rfl, hf, hd, hl, k⟩ := h
    refine ⟨_, (pss_cons (ps_if (pt_val (pe_callB call_isi (by rfl) T.n_isinstance (by decide +kernel) (pa_cons (pv 0) (pa_cons (pe_bltn (v := .ty "str") (by rfl) T.n_str (by decide +kernel) rfl) pa_nil)))) (pss_one (ps_ret (pv 0))) pss_nil)
      (pss_cons ps_never (pss_cons ps_never (pss_cons ps_never (pss_one ps_never))))), ?_⟩
    cases hf with
    | name z => exact ⟨_, rfl, _, _, _, _, true, rfl, .ty _, .base (.str _), kit_ty (by decide +kernel), true, rfl, iteT ⟨_, rfl, k H (Same.refl _)⟩⟩
    | nil h => exact absurd hd (Nat.not_succ_le_zero _)
    | node h n l => exact absurd hd (Nat.not_succ_le_zero _)
  | n + 1 => by
    have G_law_form_text := ok_law_form_text T n
    refine T.F_law_form_text.ok sc_law_form_text (fun vs H Q E h => FT_len h) (fun cdv A' outer s H vs Q E hr h => ?_)
    obtain ⟨v, f, rfl, hf, hd, hl, k⟩ := h
    refine ⟨_, (pss_cons (ps_if (pt_val (pe_callB call_isi (by rfl) T.n_isinstance (by decide +kernel) (pa_cons (pv 0) (pa_cons (pe_bltn (v := .ty "str") (by rfl) T.n_str (by decide +kernel) rfl) pa_nil)))) (pss_one (ps_ret (pv 0))) pss_nil)
      (pss_cons (ps_if (pt_cmpR op_eq (pe_callB call_len_seq (by rfl) T.n_len (by decide +kernel) (pa_cons (pv 0) pa_nil)) pe_int (nomark _)) (pss_one (ps_ret pe_str)) pss_nil)
      (pss_cons (ps_set (i := 1) sc_law_form_text.nd rfl (Or.inl rfl) (pe_join pe_str (pe_lc (own := [("part", 2)]) (g := gName 2) (tt := tYes) rfl sc_law_form_text.nd (pi_tup (pe_slice sl_tupA (pv 0) (po_some pe_int) po_none)) (blkOk_by (N := ["form", "inner", "part"]) (sc := defScope s_law_form_text) (by decide +kernel)) (fun _ _ _ _ _ => (pg_name (i := 2) sc_law_form_text.nd rfl (Or.inl rfl))) (fun _ _ _ _ _ => pts_nil) (fun _ _ _ _ _ => (pe_call G_law_form_text hr rfl T.mg_law_form_text T.F_law_form_text.kp T.b_law_form_text .nil pass0 (pa_cons (pv 2) pa_nil))))))
      (pss_cons (ps_if (pt_cmpR op_eq (pe_ix ix_tup (pv 0) pe_int (fun _ _ => rfl)) pe_str (nomark _)) (pss_one (ps_ret (pe_op op_add_str (pe_op op_add_str pe_str (pv 1)) pe_str))) pss_nil)
      (pss_one (ps_ret (pe_op op_add_str (pe_op op_add_str pe_str (pv 1)) pe_str))))))), ?_⟩
    cases f with
    | name z => cases hf; exact ⟨_, rfl, _, _, _, _, true, rfl, .ty _, .base (.str _), kit_ty (by decide +kernel), true, rfl, iteT ⟨_, rfl, k H (Same.refl _)⟩⟩
    | node b ps =>
      obtain ⟨a, xs, rfl, h, l, hx⟩ := hf.inv
      have hd : depL ps ≤ n := Nat.le_of_succ_le_succ hd
      have nl := node_len b ps
      refine ⟨_, rfl, _, _, _, _, false, rfl, .ty _, .base (.tup h), kit_ty (by decide +kernel), false, rfl, iteF ?_⟩
      refine ⟨_, rfl, a, xs, rfl, .inr (SqT.of h), rfl, _, rfl, ?_⟩
      rcases hx with ⟨rfl, rfl, rfl⟩ | ⟨vs, rfl, hn⟩
      · exact itY rfl (k H (Same.refl _))
      refine itN (fun z => by have := V.int.inj z; rw [List.length_cons] at this; omega) ?_
      refine ⟨⟨_, rfl⟩, _, rfl, _, rfl, ?_⟩
      dsimp only [tNoPart]
      refine slA_tail (SqT.of h) fun q H1 s1 hq => ?_
      refine ⟨q, rfl, ⟨_, hq⟩, fun D hD => lc_it walk_tup (PvS H1 D (tps ps)) (pv0 hD rfl) (fun i H2 _ p => p.1.tup hq) ?_ ?_⟩
      · rintro i x H30 H3 hi p ⟨rfl, hx⟩
        obtain ⟨f, ef, hf⟩ := (l.keep ((Kt.of s1).trans (Kt.of p.1))).get hx
        have mf := List.mem_of_getElem? ef
        have := part_len mf
        refine ⟨rfl, _, rfl, x, f, rfl, hf, Nat.le_trans (depL_mem mf) hd, by omega, fun H4 s4 => ?_⟩
        have q4 := (p.more s4).push (y := .str (Tx (showF f))) hD (by unfold tps; rw [take_succ ef, List.map_append, List.map_append]; rfl) (by unfold tps; rw [List.length_map, List.length_map, List.length_take]; have := joinSp_len (showL ps); rw [showL_len] at this; omega)
        exact q4
      · rintro H3 ⟨s3, h3⟩
        rw [show (V.str (kd b) :: vs).tail.length = ps.length from l.len, tps_all] at h3
        refine ⟨_, D, _, rfl, rfl, .inl (SqL.of h3), tps_fit (by omega), ?_⟩
        rw [join_Tx]
        have s13 := s1.trans s3
        have fin : ∀ (o c : Str), o = Tx [sgn b] → c = Tx [csgn b] → ∀ H', Same H H' → o.length + (Tx (joinSp (showL ps))).length ≤ sizeLine ∧ (o ++ Tx (joinSp (showL ps))).length + c.length ≤ sizeLine ∧ Q (.str ((o ++ Tx (joinSp (showL ps))) ++ c)) H' := fun o c eo ec H' s' => by
          have e : o ++ Tx (joinSp (showL ps)) ++ c = Tx (showF (.node b ps)) := by
            rw [eo, ec, ← Tx_app, ← Tx_app]
            show Tx (([sgn b] ++ joinSp (showL ps)) ++ [csgn b]) = Tx (sgn b :: (joinSp (showL ps) ++ [csgn b]))
            rw [List.append_assoc]; rfl
          have lo : o.length = 1 := by rw [eo]; exact Tx_len _
          have lc : c.length = 1 := by rw [ec]; exact Tx_len _
          have lj := Tx_len (joinSp (showL ps))
          have big : 1000000 ≤ sizeLine := by decide
          refine ⟨?_, ?_, ?_⟩
          · omega
          · rw [Str.length_append]; omega
          · rw [e]; exact k H' s'
        have at0 : atI (V.str (kd b) :: vs) 0 = some (V.str (kd b)) := by
          show atI _ ((0 : Nat) : Int) = _
          exact atI_nat rfl
        refine ⟨_, rfl, a, _, 0, _, rfl, rfl, SqT.of (s13 _ _ h), at0, rfl, _, rfl, ?_⟩
        cases b with
        | true =>
          obtain ⟨f1, f2, f3⟩ := fin "[" "]" (by decide) (by decide) _ s13
          exact ifF (by decide +kernel) ⟨_, rfl, _, _, rfl, rfl, f1, _, _, rfl, rfl, f2, f3⟩
        | false =>
          obtain ⟨f1, f2, f3⟩ := fin "(" ")" (by decide) (by decide) _ s13
          exact ifT (by decide +kernel) ⟨_, rfl, _, _, rfl, rfl, f1, _, _, rfl, rfl, f2, f3⟩
end
end My
set_option maxRecDepth 100000
set_option maxHeartbeats 4000000
namespace My
open PySem L2
open My7 (Fm Sk La Pr showF showL joinSp sgn csgn)
theorem knp : ¬ (("_names" : Str) = "_pieces") := by decide +kernel
def fldsR (dn dl : Addr) : List (Str × V) := putF "_pieces" (.ref dl) (putF "_names" (.ref dn) [])
theorem fldsR_names (dn dl : Addr) : (fldsR dn dl).lookup ("_names" : Str) = some (.ref dn) := by
  unfold fldsR; rw [lookup_putF, if_neg knp, lookup_putF, if_pos rfl]
theorem fldsR_pieces (dn dl : Addr) : (fldsR dn dl).lookup ("_pieces" : Str) = some (.ref dl) := by
  unfold fldsR; rw [lookup_putF, if_pos rfl]
def kvs (ns : List (List Nat)) : List (L2.Key × V) := ns.map fun z => (Sum.inr (Tx z), V.bl true)
theorem kvs_get (z : List Nat) : ∀ ns : List (List Nat), valV (kvs ns) (Sum.inr (Tx z)) = if z ∈ ns then some (V.bl true) else none
  | [] => by rw [if_neg (fun h => nomatch h)]; exact valV_nil
  | y :: r => by
    by_cases e : y = z
    · subst e
      rw [if_pos List.mem_cons_self]
      exact valV_pos (p := (Sum.inr (Tx y), V.bl true)) rfl
    · have : valV (kvs (y :: r)) (Sum.inr (Tx z)) = valV (kvs r) (Sum.inr (Tx z)) := valV_neg (p := (Sum.inr (Tx y), V.bl true)) (fun h => e (Tx_inj (Sum.inr.inj h)))
      rw [this, kvs_get z r]
      by_cases h : z ∈ r
      · rw [if_pos h, if_pos (List.mem_cons_of_mem _ h)]
      · rw [if_neg h, if_neg (fun h2 => by rcases List.mem_cons.mp h2 with h2 | h2; exact e h2.symm; exact h h2)]
theorem kvs_isSome (z : List Nat) (ns : List (List Nat)) : (valV (kvs ns) (Sum.inr (Tx z))).isSome = decide (z ∈ ns) := by
  rw [kvs_get]
  by_cases h : z ∈ ns
  · rw [if_pos h, decide_eq_true h]; rfl
  · rw [if_neg h, decide_eq_false h]; rfl
theorem kvs_put {z : List Nat} {ns : List (List Nat)} (h : z ∉ ns) : putK (kvs ns) (Sum.inr (Tx z)) (V.bl true) = kvs (ns ++ [z]) := by
  rw [putK_new _ (by rw [kvs_get, if_neg h])]
  unfold kvs; rw [List.map_append]; rfl
def cnt (s : Sk) : Nat := s.base.length + (s.open_.map fun x => x.2.length).sum
theorem cnt_put (s : Sk) (f : Fm) : cnt (s.put f) = cnt s + 1 := by
  obtain ⟨base, op⟩ := s
  cases op with
  | nil => show (base ++ [f]).length + 0 = base.length + 0 + 1; rw [List.length_append]; rfl
  | cons a r =>
    show base.length + ((a.2 ++ [f]).length + (r.map fun x => x.2.length).sum) = base.length + (a.2.length + (r.map fun x => x.2.length).sum) + 1
    rw [List.length_append, show [f].length = 1 from rfl]; omega
theorem cnt_push (s : Sk) (c : Nat) : cnt (s.push c) = cnt s := by
  show s.base.length + (0 + (s.open_.map fun x => x.2.length).sum) = _
  rw [Nat.zero_add]; rfl
theorem cnt_lev {s : Sk} {o : Option Bool} {ps : List Fm} {ls : List (Option Bool × List Fm)} (h : lev s = (o, ps) :: ls) : ps.length ≤ cnt s := by
  obtain ⟨base, op⟩ := s
  cases op with
  | nil => cases h; exact Nat.le_add_right _ _
  | cons a r =>
    cases h
    show a.2.length ≤ base.length + (a.2.length + (r.map fun x => x.2.length).sum)
    omega
theorem close_eq (base : List Fm) (k : Bool) (ps : List Fm) (r : List (Bool × List Fm)) (c : Nat) : (⟨base, (k, ps) :: r⟩ : Sk).close c = if k = (c == 93) ∧ (if k then 3 else 2) ≤ ps.length then some ((⟨base, r⟩ : Sk).put (.node k ps)) else none := rfl
theorem two_le {k : Bool} {n : Nat} (h : (if k then 3 else 2) ≤ n) : 2 ≤ n := by cases k <;> simp at h <;> omega
theorem cnt_close {s t : Sk} {c : Nat} (h : s.close c = some t) : cnt t ≤ cnt s := by
  obtain ⟨base, op⟩ := s
  cases op with
  | nil => cases h
  | cons a r =>
    obtain ⟨k, ps⟩ := a
    rw [close_eq] at h
    by_cases hc : k = (c == 93) ∧ (if k then 3 else 2) ≤ ps.length
    · rw [if_pos hc] at h
      have h2 := two_le hc.2
      cases h
      rw [cnt_put]
      show base.length + (r.map fun x => x.2.length).sum + 1 ≤ base.length + (ps.length + (r.map fun x => x.2.length).sum)
      omega
    · rw [if_neg hc] at h; cases h
/-- a reader -/
structure Rd (C : Addr) (H0 H : Hp) (p dn dl : Addr) (us : List Addr) (s : Sk) (ns : List (List Nat)) : Prop where
  ins : ∃ dx, H p = some (.ins C dx (fldsR dn dl))
  nms : H dn = some (.dK (kvs ns))
  pcs : H dl = some (.lst (us.reverse.map V.ref))
  sk : SkAt H us s
  ndl : dl ∉ us
  same : Same H0 H
  np : H0 p = none
  nn : H0 dn = none
  nl : H0 dl = none
  nu : ∀ q ∈ us, H0 q = none
  cn : cnt s ≤ ns.length
  n12 : ns.length ≤ 12
theorem Rd.more {C : Addr} {H0 H H' : Hp} {p dn dl : Addr} {us : List Addr} {s : Sk} {ns : List (List Nat)} (h : Rd C H0 H p dn dl us s ns) (e : Same H H') : Rd C H0 H' p dn dl us s ns :=
  ⟨h.ins.imp fun dx i => e _ _ i, e _ _ h.nms, e _ _ h.pcs, h.sk.same e, h.ndl, h.same.trans e, h.np, h.nn, h.nl, h.nu, h.cn, h.n12⟩
theorem Lv.lst {H : Hp} : ∀ {us : List Addr} {ls : List (Option Bool × List Fm)} {q : Addr}, Lv H us ls → q ∈ us → ∃ xs, H q = some (.lst xs)
  | [], _, _, _, h => nomatch h
  | a :: us, l :: ls, q, ⟨⟨vs, h1, _⟩, h3⟩, h => by
    rcases List.mem_cons.mp h with rfl | h
    · exact ⟨_, h1⟩
    · exact h3.lst h
/-- what is new is written, all that stood stands -/
theorem same_upd {H0 H : Hp} {q : Addr} {o : HO} (s : Same H0 H) (h : H0 q = none) : Same H0 (upd H q o) := fun b u e => by
  rw [upd_ne (ne_of_none e h)]; exact s _ _ e
theorem at_neg1 {xs : List V} {x : V} : atI (xs ++ [x]) (-1) = some x := by
  unfold atI ixN
  have h1 : ((xs ++ [x]).length : Int) = (xs.length : Int) + 1 := by rw [List.length_append]; rfl
  rw [if_neg (by decide), if_pos (by omega)]
  have e : (-1 + ((xs ++ [x]).length : Int)).toNat = xs.length := by omega
  rw [e]
  show (xs ++ [x])[xs.length]? = _
  simp
theorem rev_last (q : Addr) (ut : List Addr) : (q :: ut).reverse.map V.ref = ut.reverse.map V.ref ++ [V.ref q] := by
  rw [List.reverse_cons, List.map_append]; rfl
def okAdd (z : List Nat) (ns : List (List Nat)) : Prop := My7.isName z = true ∧ z ∉ ns ∧ ns.length ≠ 12
theorem okName_tl (z : List Nat) : okName (Tx z) = My7.isName z := by
  unfold okName My7.isName
  rw [Tx_len]
  rfl
section
variable {P : Program} {w : World} {K : PySem.W.Frag} {mg : Str → Option Value} {base : Heap} {A : Ad}
def spAdd (C B : Addr) : Sp := fun vs H Q E => ∃ p z H0 dn dl us s ns, vs = [.ref p, .str (Tx z)] ∧ Rd C H0 H p dn dl us s ns ∧ z.length ≤ 900000 ∧
  (okAdd z ns → ∀ H', Rd C H0 H' p dn dl us (s.put (.name z)) (ns ++ [z]) → Q .non H') ∧ (¬ okAdd z ns → ∀ d H', Same H0 H' → H' d = some (.xd [("line", .int 0)]) → E (.ref B) (some d) H')
theorem ok_add (T : Txt P w K mg A) : FnOk P w K mg base (L2.CX P w) 3 A.a_FormReader_add_name A.d_FormReader_add_name ["self", "name"] (spAdd A.C_FormReader A.C_BadText) := by
  have G_is_name := ok_name (P := P) (w := w) (base := base) T
  have G_BadText_init := ok_BadText (P := P) (w := w) (base := base) T
  refine funX T.F_FormReader_add_name sc_FormReader_add_name (fun vs H Q E h => ?_) (fun cdv A' outer s0 H vs Q E hr h => ?_)
  · obtain ⟨p, z, H0, dn, dl, us, s, ns, rfl, _⟩ := h
    rfl
  · obtain ⟨p, z, H0, dn, dl, us, s, ns, rfl, R, hz, k, ke⟩ := h
    refine ⟨_, (pss_cons (ps_if (PW.pt (pw_or (pt_not (pt_val (pe_call G_is_name (hr.mono (by decide)) rfl T.mg_is_name T.F_is_name.kp T.b_is_name .nil pass0 (pa_cons (pv 1) pa_nil)))) (pw_or (pt_cmp (pc_din (hu_of hr) (pv 1) (pe_fld (pv 0) rfl))) (pw_or1 (pt_cmpR op_eq (pe_callB call_lenD (by rfl) T.n_len (by decide +kernel) (pa_cons (pe_fld (pv 0) rfl) pa_nil)) (pe_glob (v := .int 12) rfl T.mg_MOST_NAMES.choose_spec ⟨_, rfl⟩) (nomark _)))))) (pss_one (ps_raise rfl (takes_of rfl rfl rfl rfl) (pmk_oex T.SC_BadText.ox T.ii_BadText T.ti_BadText G_BadText_init (hr.mono (by decide)) T.b_BadText_init .nil pass0 rfl T.mg_BadText (pa_cons pe_int pa_nil)))) pss_nil)
      (pss_cons (ps_dput (hu_of hr) (pe_fld (pv 0) rfl) (pv 1) pe_bl rfl)
      (pss_one (ps_expr (pe_bm PySem.F.plainAttrs_list PySem.F.slot_list_append PySem.F.type_list_append mt_append (pe_ix ix_list (pe_fld (pv 0) rfl) (pe_un un_neg pe_int) (fun _ _ => rfl)) (pa_cons (pv 1) pa_nil)))))), ?_⟩
    have lz := Tx_len z
    have hn := R.n12
    refine ⟨_, rfl, _, rfl, by omega, fun H1 s1 => ⟨_, rfl, ?_⟩⟩
    have R1 := R.more s1
    rw [okName_tl]
    obtain ⟨dx, hp⟩ := R1.ins
    cases h1 : My7.isName z with
    | false =>
      have ke := ke fun h => by rw [h.1] at h1; cases h1
      refine ifT rfl (ifT rfl ⟨(by decide : 1 ≤ 1000), fun a ha => ⟨a, _, rfl, ⟨_, rfl, by decide⟩, upd_same, fun d hd hne => ⟨rfl, d, _, upd_same, by rw [upd_ne hne, upd_same], by rw [upd_ne hne] at hd; exact hd, by rw [upd_ne hne] at hd; exact ke d _ (Same.trans R1.same (exc_same ha hd)) upd_same⟩⟩⟩)
    | true =>
      refine ifF rfl ⟨_, rfl, _, rfl, _, _, _, _, _, rfl, hp, T.cl_FormReader, T.n_FormReader__names, fldsR_names _ _, dn, _, rfl, DGet.k (k := Sum.inr (Tx z)) R1.nms, _, rfl, ?_⟩
      rw [kvs_isSome]
      by_cases h2 : z ∈ ns
      · have ke := ke fun h => h.2.1 h2
        refine ifT (decide_eq_true h2) ?_
        dsimp only
        refine ifT rfl ?_
        refine ⟨(by decide : 1 ≤ 1000), fun a ha => ⟨a, _, rfl, ⟨_, rfl, by decide⟩, upd_same, fun d hd hne => ⟨rfl, d, _, upd_same, by rw [upd_ne hne, upd_same], by rw [upd_ne hne] at hd; exact hd, by rw [upd_ne hne] at hd; exact ke d _ (Same.trans R1.same (exc_same ha hd)) upd_same⟩⟩⟩
      refine ifF (decide_eq_false h2) ⟨_, rfl, _, _, _, _, _, rfl, hp, T.cl_FormReader, T.n_FormReader__names, fldsR_names _ _, dn, _, rfl, R1.nms, rfl, _, rfl, ?_⟩
      by_cases h3 : ns.length = 12
      · have ke := ke fun h => h.2.2 h3
        refine itY (by unfold kvs; rw [List.length_map, h3]; rfl) ?_
        refine ⟨(by decide : 1 ≤ 1000), fun a ha => ⟨a, _, rfl, ⟨_, rfl, by decide⟩, upd_same, fun d hd hne => ⟨rfl, d, _, upd_same, by rw [upd_ne hne, upd_same], by rw [upd_ne hne] at hd; exact hd, by rw [upd_ne hne] at hd; exact ke d _ (Same.trans R1.same (exc_same ha hd)) upd_same⟩⟩⟩
      refine itN (fun e => h3 (by have := V.int.inj e; unfold kvs at this; rw [List.length_map] at this; omega)) ?_
      have k := k ⟨h1, h2, h3⟩
      refine ⟨_, rfl, _, _, _, _, _, rfl, hp, T.cl_FormReader, T.n_FormReader__names, fldsR_names _ _, _, rfl, dn, _, rfl, DPut.k (k := Sum.inr (Tx z)) R1.nms (Nat.lt_of_le_of_lt (by unfold kvs; rw [List.length_map]; exact hn) (by decide : 12 < sizeLine)), ?_⟩
      rw [kvs_put h2]
      have ndn : ∀ q, H1 q ≠ some (.dK (kvs ns)) → q ≠ dn := fun q h e => h (by rw [e]; exact R1.nms)
      obtain ⟨q, ut, o, ps, ls, vs, eu, el, hq, hf, hlv, hnq, nd⟩ := R1.sk.top
      have hp2 : upd H1 dn (.dK (kvs (ns ++ [z]))) p = _ := (upd_ne (ndn p (by rw [hp]; exact fun e => nomatch e))).trans hp
      have hl2 : upd H1 dn (.dK (kvs (ns ++ [z]))) dl = _ := (upd_ne (ndn dl (by rw [R1.pcs]; exact fun e => nomatch e))).trans R1.pcs
      have hq2 : upd H1 dn (.dK (kvs (ns ++ [z]))) q = _ := (upd_ne (ndn q (by rw [hq]; exact fun e => nomatch e))).trans hq
      have at1 : atI (us.reverse.map V.ref) (-1) = some (.ref q) := by rw [eu, rev_last]; exact at_neg1
      have hdt : ∀ xs, H1 dn ≠ some (.tup xs) := fun xs e => by rw [R1.nms] at e; cases e
      have hdu : dn ∉ us := fun h => by
        obtain ⟨xs, e⟩ := R1.sk.at_.lst h
        rw [R1.nms] at e; cases e
      have hb : ∀ b ∈ us, b ≠ dl := fun b hb e => R1.ndl (by rw [← e]; exact hb)
      have qu : q ∈ us := by rw [eu]; exact List.mem_cons_self
      have qt : ∀ xs, upd H1 dn (.dK (kvs (ns ++ [z]))) q ≠ some (.tup xs) := fun xs e => by rw [hq2] at e; cases e
      refine ⟨_, rfl, _, _, _, _, _, rfl, hp2, T.cl_FormReader, T.n_FormReader__pieces, fldsR_pieces _ _, _, rfl, dl, _, _, _, rfl, rfl, SqL.of hl2, at1, .inl ⟨rfl, _, SqL.of hq2⟩, _, rfl, q, _, _, rfl, rfl, hq2, ?_, ?_⟩
      · rw [List.length_append, hf.len]
        have h1 := cnt_lev el
        have h2 := R1.cn
        have h3 : (hdK o).length ≤ 1 := by cases o <;> exact (by simp [hdK])
        exact small_int (by omega)
      refine k _ ⟨⟨dx, ?_⟩, ?_, ?_, ?_, R1.ndl, same_upd (same_upd R1.same R1.nn) (R1.nu q qu), R1.np, R1.nn, R1.nl, R1.nu, by rw [cnt_put, List.length_append]; exact Nat.succ_le_succ R1.cn, by rw [List.length_append]; show ns.length + 1 ≤ 12; omega⟩
      · rw [upd_ne (fun e => by rw [e, hq2] at hp2; cases hp2)]; exact hp2
      · rw [upd_ne (fun e => hdu (by rw [e]; exact qu)), upd_same]
      · rw [upd_ne (hb q qu).symm]; exact hl2
      · rw [eu]
        exact SkAt.put el hq2 (hf.keep (Kt.upd hdt)) (hlv.upd (fun h => hdu (by rw [eu]; exact List.mem_cons_of_mem _ h)) hdt) hnq nd (.name z)
/-- the closing of a piece -/
def spClose (C B : Addr) : Sp := fun vs H Q E => ∃ p c H0 dn dl us s ns, vs = [.ref p, .str (Tx [c])] ∧ Rd C H0 H p dn dl us s ns ∧ My7.closer c = true ∧
  (∀ t, s.close c = some t → ∀ H' ut, ut.length ≤ us.length → Rd C H0 H' p dn dl ut t ns → Q .non H') ∧ (s.close c = none → ∀ d H', Same H0 H' → H' d = some (.xd [("line", .int 0)]) → E (.ref B) (some d) H')
theorem ok_close (T : Txt P w K mg A) : FnOk P w K mg base (L2.CX P w) 3 A.a_FormReader_close A.d_FormReader_close ["self", "sign"] (spClose A.C_FormReader A.C_BadText) := by
  have G_BadText_init := ok_BadText (P := P) (w := w) (base := base) T
  refine funX T.F_FormReader_close sc_FormReader_close (fun vs H Q E h => ?_) (fun cdv A' outer s0 H vs Q E hr h => ?_)
  · obtain ⟨p, z, H0, dn, dl, us, s, ns, rfl, _⟩ := h
    rfl
  · obtain ⟨p, c, H0, dn, dl, us, s, ns, rfl, R, hc, k, ke⟩ := h
    refine ⟨_, (pss_cons (ps_set (i := 2) sc_FormReader_close.nd rfl (Or.inl rfl) (pe_callTy call_tuple_of (by rfl) T.n_tuple (by decide +kernel) (pa_cons (pe_bm0 PySem.F.plainAttrs_list PySem.F.slot_list_pop PySem.F.type_list_pop mt_pop (pe_fld (pv 0) rfl)) pa_nil)))
      (pss_cons (ps_set (i := 3) sc_FormReader_close.nd rfl (Or.inl rfl) (pe_ix ix_kdict (pe_glob (v := .ref A.e_CLOSERS) rfl T.mg_CLOSERS rfl) (pv 1) (fun _ _ => rfl)))
      (pss_cons (ps_if (PW.pt (pw_or (pt_cmpR op_eq (pe_callB call_len_seq (by rfl) T.n_len (by decide +kernel) (pa_cons (pe_fld (pv 0) rfl) pa_nil)) pe_int (nomark _)) (pw_or (pt_cmpR op_ne (pe_ix ix_tup (pv 2) pe_int (fun _ _ => rfl)) (pv 3) (nomark _)) (pw_or1 (pt_cmpR op_le (pe_callB call_len_seq (by rfl) T.n_len (by decide +kernel) (pa_cons (pv 2) pa_nil)) (pe_ix ix_kdict (pe_glob (v := .ref A.e_LEAST_PARTS) rfl T.mg_LEAST_PARTS rfl) (pv 3) (fun _ _ => rfl)) (nomark _)))))) (pss_one (ps_raise rfl (takes_of rfl rfl rfl rfl) (pmk_oex T.SC_BadText.ox T.ii_BadText T.ti_BadText G_BadText_init (hr.mono (by decide)) T.b_BadText_init .nil pass0 rfl T.mg_BadText (pa_cons pe_int pa_nil)))) pss_nil)
      (pss_one (ps_expr (pe_bm PySem.F.plainAttrs_list PySem.F.slot_list_append PySem.F.type_list_append mt_append (pe_ix ix_list (pe_fld (pv 0) rfl) (pe_un un_neg pe_int) (fun _ _ => rfl)) (pa_cons (pv 2) pa_nil))))))), ?_⟩
    obtain ⟨dx, hp⟩ := R.ins
    obtain ⟨q, ut, o, ps, ls, vs, eu, el, hq, hf, hlv, hnq, nd⟩ := R.sk.top
    subst eu
    have hl := R.pcs
    rw [rev_last] at hl
    have qu := R.nu q List.mem_cons_self
    have dq : dl ≠ q := fun e => R.ndl (by rw [e]; exact List.mem_cons_self)
    refine ⟨_, rfl, _, _, _, _, _, rfl, hp, T.cl_FormReader, T.n_FormReader__pieces, fldsR_pieces _ _, .inl ⟨rfl, _, SqL.of hl⟩, dl, _, V.ref q, rfl, rfl, hl, by simp, ?_⟩
    rw [List.dropLast_concat]
    have s1 := same_upd (o := .lst (ut.reverse.map V.ref)) R.same R.nl
    have hq1 : upd H dl (.lst (ut.reverse.map V.ref)) q = _ := (upd_ne dq.symm).trans hq
    have hl1 := upd_same (H := H) (a := dl) (o := .lst (ut.reverse.map V.ref))
    have hp1 : upd H dl (.lst (ut.reverse.map V.ref)) p = _ := (upd_ne (fun e => by rw [e, hl] at hp; cases hp)).trans hp
    have hn1 : upd H dl (.lst (ut.reverse.map V.ref)) dn = _ := (upd_ne (fun e => by have z := R.nms; rw [e, hl] at z; cases z)).trans R.nms
    have lt : ∀ xs, H dl ≠ some (.tup xs) := fun xs e => by rw [hl] at e; cases e
    have hf1 := hf.keep (Kt.upd (o := .lst (ut.reverse.map V.ref)) lt)
    have hlv1 := hlv.upd (o := .lst (ut.reverse.map V.ref)) (fun h => R.ndl (List.mem_cons_of_mem _ h)) lt
    generalize upd H dl (.lst (ut.reverse.map V.ref)) = H1 at s1 hq1 hl1 hp1 hn1 hf1 hlv1
    refine ⟨_, _, rfl, .inl ⟨SqL.of hq1, fun b hb => ?_⟩⟩
    have s2 := same_new (o := .tup (hdK o ++ vs)) hb
    have hb2 := upd_same (H := H1) (a := b) (o := .tup (hdK o ++ vs))
    have hp2 := s2 _ _ hp1
    have hl2 := s2 _ _ hl1
    have hn2 := s2 _ _ hn1
    have hf2 := hf1.keep (Kt.of s2)
    have hlv2 := hlv1.same s2
    have sB := s1.trans s2
    clear s2
    generalize upd H1 b _ = H2 at sB hb2 hp2 hl2 hn2 hf2 hlv2
    have hkd : KDct K w A.e_CLOSERS (Tx [c]) (.str (kd (c == 93))) := by
      rcases Bool.or_eq_true_iff.mp hc with e | e
      · have e : c = 41 := eq_of_beq e
        subst e
        exact T.kd_CLOSERS_0
      · have e : c = 93 := eq_of_beq e
        subst e
        exact T.kd_CLOSERS_1
    have hle : KDct K w A.e_LEAST_PARTS (kd (c == 93)) (.int (if (c == 93) then 3 else 2)) := by
      cases c == 93
      · exact T.kd_LEAST_PARTS_0
      · exact T.kd_LEAST_PARTS_1
    refine ⟨_, rfl, _, _, _, rfl, rfl, hkd, _, rfl, _, _, _, _, _, rfl, hp2, T.cl_FormReader, T.n_FormReader__pieces, fldsR_pieces _ _, dl, _, rfl, .inl (SqL.of hl2), rfl, _, rfl, ?_⟩
    obtain ⟨base', op⟩ := s
    cases op with
    | nil =>
      cases el
      have : ut = [] := by cases ut with | nil => rfl | cons x r => exact hlv.elim
      subst this
      have ke := ke rfl
      refine ifT rfl ?_
      dsimp only
      refine ifT rfl ?_
      refine ⟨(by decide : 1 ≤ 1000), fun a ha => ⟨a, _, rfl, ⟨_, rfl, by decide⟩, upd_same, fun d hd hne => ⟨rfl, d, _, upd_same, by rw [upd_ne hne, upd_same], by rw [upd_ne hne] at hd; exact hd, by rw [upd_ne hne] at hd; exact ke d _ (Same.trans sB (exc_same ha hd)) upd_same⟩⟩⟩
    | cons a r =>
      obtain ⟨k1, ps1⟩ := a
      have el2 : (some k1, ps1) :: lev ⟨base', r⟩ = (o, ps) :: ls := el
      cases el2
      rw [close_eq] at ke k
      have sk2 : SkAt H2 ut ⟨base', r⟩ := ⟨nd, hlv2⟩
      obtain ⟨q2, ut2, o2, ps2, ls2, vs2, eu2, el3, hq2, hf3, hlv3, hnq2, nd2⟩ := sk2.top
      refine itN (fun e => by have := V.int.inj e; rw [eu2] at this; simp at this; omega) ?_
      have at0 : atI (hdK (some k1) ++ vs) 0 = some (V.str (kd k1)) := by
        show atI _ ((0 : Nat) : Int) = _
        exact atI_nat rfl
      refine ⟨_, rfl, b, _, _, _, rfl, rfl, SqT.of hb2, at0, _, rfl, rfl, _, rfl, ?_⟩
      by_cases hk : k1 = (c == 93)
      · refine itNe (by rw [hk]) ?_
        refine ⟨_, rfl, b, _, rfl, .inr (SqT.of hb2), _, rfl, _, _, _, rfl, rfl, hle, _, _, rfl, rfl, _, rfl, ?_⟩
        have hlen : (((hdK (some k1) ++ vs).length : Nat) : Int) = (ps.length : Int) + 1 := by
          show ((V.str (kd k1) :: vs).length : Int) = _
          rw [List.length_cons, hf2.len]; rfl
        by_cases hn : (if k1 then 3 else 2) ≤ ps.length
        · rw [if_pos ⟨hk, hn⟩] at k
          refine itN (by rw [hlen, ← hk]; cases k1 <;> simp at hn ⊢ <;> omega) ?_
          have at1 : atI (ut.reverse.map V.ref) (-1) = some (.ref q2) := by rw [eu2, rev_last]; exact at_neg1
          have qu2 : q2 ∈ ut := by rw [eu2]; exact List.mem_cons_self
          have hcn : cnt ((⟨base', r⟩ : Sk).put (.node k1 ps)) ≤ ns.length := Nat.le_trans (cnt_close (s := ⟨base', (k1, ps) :: r⟩) (c := c) (by rw [close_eq, if_pos ⟨hk, hn⟩])) R.cn
          have hps : ps ≠ [] := fun e => by rw [e] at hn; have := two_le hn; simp at this
          have hfo : Fo H2 (.ref b) (.node k1 ps) := .node hb2 hps hf2
          refine ⟨_, rfl, _, _, _, _, _, rfl, hp2, T.cl_FormReader, T.n_FormReader__pieces, fldsR_pieces _ _, _, rfl, dl, _, _, _, rfl, rfl, SqL.of hl2, at1, .inl ⟨rfl, _, SqL.of hq2⟩, _, rfl, q2, _, _, rfl, rfl, hq2, ?_, ?_⟩
          · rw [List.length_append, hf3.len]
            have h1 := cnt_lev el3
            have h2 : cnt (⟨base', r⟩ : Sk) + 1 ≤ ns.length := by rw [cnt_put] at hcn; exact hcn
            have h3 : (hdK o2).length ≤ 1 := by cases o2 <;> exact (by simp [hdK])
            have := R.n12
            exact small_int (by omega)
          refine k _ rfl _ ut (Nat.le_succ _) ⟨⟨dx, ?_⟩, ?_, ?_, ?_, fun h => R.ndl (List.mem_cons_of_mem _ h), same_upd sB (R.nu q2 (List.mem_cons_of_mem _ qu2)), R.np, R.nn, R.nl, fun x h => R.nu x (List.mem_cons_of_mem _ h), hcn, R.n12⟩
          · rw [upd_ne (fun e => by rw [e, hq2] at hp2; cases hp2)]; exact hp2
          · rw [upd_ne (fun e => by rw [e, hq2] at hn2; cases hn2)]; exact hn2
          · rw [upd_ne (fun e => R.ndl (by rw [e]; exact List.mem_cons_of_mem _ qu2))]; exact hl2
          · rw [eu2]
            exact SkAt.put el3 hq2 hf3 hlv3 hnq2 nd2 hfo
        · rw [if_neg (fun h => hn h.2)] at ke
          have ke := ke rfl
          refine itY (by rw [hlen, ← hk]; cases k1 <;> simp at hn ⊢ <;> omega) ?_
          refine ⟨(by decide : 1 ≤ 1000), fun a ha => ⟨a, _, rfl, ⟨_, rfl, by decide⟩, upd_same, fun d hd hne => ⟨rfl, d, _, upd_same, by rw [upd_ne hne, upd_same], by rw [upd_ne hne] at hd; exact hd, by rw [upd_ne hne] at hd; exact ke d _ (Same.trans sB (exc_same ha hd)) upd_same⟩⟩⟩
      · rw [if_neg (fun h => hk h.1)] at ke
        have ke := ke rfl
        refine itNeN (fun e => hk ?_) ?_
        · have e := V.str.inj e
          revert e
          cases k1 <;> cases (c == 93) <;> decide
        dsimp only
        refine ifT rfl ?_
        refine ⟨(by decide : 1 ≤ 1000), fun a ha => ⟨a, _, rfl, ⟨_, rfl, by decide⟩, upd_same, fun d hd hne => ⟨rfl, d, _, upd_same, by rw [upd_ne hne, upd_same], by rw [upd_ne hne] at hd; exact hd, by rw [upd_ne hne] at hd; exact ke d _ (Same.trans sB (exc_same ha hd)) upd_same⟩⟩⟩
end
end My
set_option maxRecDepth 100000
set_option maxHeartbeats 4000000
namespace My
open PySem L2
open My7 (Fm Sk La Pr showF showL joinSp sgn csgn opener closer pushes)
/-! ### strip on lists of signs -/
theorem drop_tw (p : Nat → Bool) (l : List Nat) : l.drop (l.takeWhile p).length = l.dropWhile p := by
  conv => lhs; rhs; rw [← List.takeWhile_append_dropWhile (p := p) (l := l)]
  rw [List.drop_left]
theorem strip_l {y : Str} (l : List Nat) : Txt.lstripChars (Tx l) y = Tx (l.dropWhile y.cps.contains) := by
  unfold Txt.lstripChars
  rw [PyProof.Rows.stripBy_eq]
  apply TL.ext_tl
  rw [TL.tl_strSub, tl_Tx, ← drop_tw]
  show ((TL.tl (Tx l)).drop _).take _ = _
  have e : PySem.stripLo y.cps.contains true (Tx l) = (l.takeWhile y.cps.contains).length := rfl
  have e2 : PySem.stripHi y.cps.contains false (Tx l) (PySem.stripLo y.cps.contains true (Tx l)) = l.length := Tx_len l
  rw [e2, e, tl_Tx]
  exact List.take_of_length_le (by rw [List.length_drop]; exact Nat.le_refl _)
theorem strip_r {y : Str} (l : List Nat) : Txt.rstripChars (Tx l) y = Tx ((l.reverse.dropWhile y.cps.contains).reverse) := by
  unfold Txt.rstripChars
  rw [PyProof.Rows.stripBy_eq]
  apply TL.ext_tl
  rw [TL.tl_strSub, tl_Tx]
  have e : PySem.stripLo y.cps.contains false (Tx l) = 0 := rfl
  have e2 : PySem.stripHi y.cps.contains true (Tx l) 0 = l.length - (l.reverse.takeWhile y.cps.contains).length := by
    show (Tx l).length - _ = _
    rw [Tx_len]; rfl
  rw [e, e2, List.drop_zero, Nat.sub_zero]
  have h : l = (l.reverse.dropWhile y.cps.contains).reverse ++ (l.reverse.takeWhile y.cps.contains).reverse := by
    rw [← List.reverse_append, List.takeWhile_append_dropWhile, List.reverse_reverse]
  generalize hd : (l.reverse.dropWhile y.cps.contains).reverse = d at h ⊢
  generalize ht : l.reverse.takeWhile y.cps.contains = t at h ⊢
  rw [h, List.length_append, List.length_reverse, Nat.add_sub_cancel, List.take_left]
  rfl
theorem has_open : (("([" : Str)).cps.contains = opener := by
  funext c
  unfold My7.opener
  rw [show (("([" : Str)).cps = #[40, 91] by decide]
  rw [Bool.eq_iff_iff]; simp
theorem has_close : ((")]" : Str)).cps.contains = closer := by
  funext c
  unfold My7.closer
  rw [show ((")]" : Str)).cps = #[41, 93] by decide]
  rw [Bool.eq_iff_iff]; simp
theorem cutS_Tk (l : List Nat) (n : Nat) : cutS (Tx l) none (some (n : Int)) = Tx (l.take n) := by
  unfold cutS
  rw [HT.sIx_none, HT.sIx_nat, List.drop_zero, Nat.sub_zero, Tx_len]
  show Tx (l.take (min n l.length)) = _
  rcases Nat.le_total n l.length with h | h
  · rw [Nat.min_eq_left h]
  · rw [Nat.min_eq_right h, List.take_of_length_le (Nat.le_refl _), List.take_of_length_le h]
theorem cutS_Dp (l : List Nat) (n : Nat) : cutS (Tx l) (some (n : Int)) none = Tx (l.drop n) := by
  unfold cutS
  rw [HT.sIx_none, HT.sIx_nat, Tx_len]
  show Tx ((l.drop (min n l.length)).take (l.length - min n l.length)) = _
  rw [List.take_of_length_le (by rw [List.length_drop]; exact Nat.le_refl _)]
  rcases Nat.le_total n l.length with h | h
  · rw [Nat.min_eq_left h]
  · rw [Nat.min_eq_right h, List.drop_of_length_le (Nat.le_refl _), List.drop_of_length_le h]
theorem closes_app : ∀ (a b : List Nat) (s : Sk), Pr.closes s (a ++ b) = (Pr.closes s a).bind fun t => Pr.closes t b
  | [], _, _ => rfl
  | c :: r, b, s => by
    show (s.close c).bind (fun t => Pr.closes t (r ++ b)) = ((s.close c).bind fun t => Pr.closes t r).bind _
    cases s.close c with
    | none => rfl
    | some t => exact closes_app r b t
theorem pushes_snoc (s : Sk) (o : List Nat) (c : Nat) : pushes s (o ++ [c]) = (pushes s o).push c := by
  unfold My7.pushes; rw [List.foldl_append]; rfl
theorem cps_get {l : List Nat} {i : Nat} {c : Nat} (h : (Tx l).cps[i]? = some c) : l[i]? = some c := by
  have : (Tx l).cps.toList[i]? = some c := by rw [Array.getElem?_toList]; exact h
  exact this
theorem cps_size (l : List Nat) : (Tx l).cps.size = l.length := Tx_len l
/-- one more open piece -/
theorem Rd.push {C : Addr} {H0 H : Hp} {p dn dl : Addr} {us : List Addr} {s : Sk} {ns : List (List Nat)} (h : Rd C H0 H p dn dl us s ns) {l : Addr} {c : Nat} (hl : H l = none) :
    Rd C H0 (upd (upd H l (.lst [.str (kd (c == 91))])) dl (.lst (us.reverse.map V.ref ++ [V.ref l]))) p dn dl (l :: us) (s.push c) ns := by
  have s1 := same_new (o := .lst [V.str (kd (c == 91))]) hl
  have h1 := h.more s1
  have hl1 := upd_same (H := H) (a := l) (o := .lst [V.str (kd (c == 91))])
  have hdl : dl ≠ l := ne_of_none h.pcs hl
  have hu : l ∉ us := fun e => by
    obtain ⟨xs, z⟩ := h.sk.at_.lst e
    rw [hl] at z; cases z
  have h0l : H0 l = none := by
    cases e : H0 l with
    | none => rfl
    | some o => have := h.same _ _ e; rw [hl] at this; cases this
  generalize upd H l _ = H1 at s1 h1 hl1
  obtain ⟨dx, hp⟩ := h1.ins
  have dt : ∀ xs, H1 dl ≠ some (.tup xs) := fun xs e => by rw [h1.pcs] at e; cases e
  refine ⟨⟨dx, ?_⟩, ?_, ?_, ⟨List.nodup_cons.mpr ⟨hu, h1.sk.nd⟩, ?_⟩, ?_, same_upd h1.same h.nl, h.np, h.nn, h.nl, ?_, by rw [cnt_push]; exact h.cn, h.n12⟩
  · rw [upd_ne (fun e => by rw [e, h1.pcs] at hp; cases hp)]; exact hp
  · rw [upd_ne (fun e => by have := h1.nms; rw [e, h1.pcs] at this; cases this)]; exact h1.nms
  · rw [upd_same, rev_last]
  · rw [lev_push]
    exact ⟨⟨[], by rw [upd_ne hdl.symm, hl1]; rfl, .nil⟩, h1.sk.at_.upd h.ndl dt⟩
  · intro e
    rcases List.mem_cons.mp e with e | e
    · exact hdl e
    · exact h.ndl e
  · intro q e
    rcases List.mem_cons.mp e with rfl | e
    · exact h0l
    · exact h.nu q e
section
variable {P : Program} {w : World} {K : PySem.W.Frag} {mg : Str → Option Value} {base : Heap} {A : Ad}
def spTake (C B : Addr) : Sp := fun vs H Q E => ∃ p x H0 dn dl us s ns, vs = [.ref p, .str (Tx x)] ∧ Rd C H0 H p dn dl us s ns ∧ us.length + x.length ≤ 900000 ∧
  (∀ t, (⟨s, ns⟩ : Pr).word x = some t → ∀ H' ut, ut.length ≤ us.length + x.length → Rd C H0 H' p dn dl ut t.sk t.names → Q .non H') ∧
  ((⟨s, ns⟩ : Pr).word x = none → ∀ d H', Same H0 H' → H' d = some (.xd [("line", .int 0)]) → E (.ref B) (some d) H')
theorem ok_take (T : Txt P w K mg A) : FnOk P w K mg base (L2.CX P w) 4 A.a_FormReader_take A.d_FormReader_take ["self", "word"] (spTake A.C_FormReader A.C_BadText) := by
  have GX_FormReader_add_name := ok_add (P := P) (w := w) (base := base) T
  have GX_FormReader_close := ok_close (P := P) (w := w) (base := base) T
  refine funX T.F_FormReader_take sc_FormReader_take (fun vs H Q E h => ?_) (fun cdv A' outer s0 H vs Q E hr h => ?_)
  · obtain ⟨p, z, H0, dn, dl, us, s, ns, rfl, _⟩ := h
    rfl
  · obtain ⟨p, x, H0, dn, dl, us, s, ns, rfl, R, hx, k, ke⟩ := h
    refine ⟨_, (pss_cons (ps_set (i := 2) sc_FormReader_take.nd rfl (Or.inl rfl) (pe_m1 PySem.F.slot_str_lstrip PySem.F.type_str_lstrip mt_lstripChars (pv 1) pe_str))
      (pss_cons (ps_set (i := 3) sc_FormReader_take.nd rfl (Or.inl rfl) (pe_m1 PySem.F.slot_str_rstrip PySem.F.type_str_rstrip mt_rstripChars (pv 2) pe_str))
      (pss_cons (ps_for (passes_of rfl) rfl (pi_str (pe_slice sl_str (pv 1) po_none (po_some (pe_op op_sub (pe_callB call_len_str (by rfl) T.n_len (by decide +kernel) (pa_cons (pv 1) pa_nil)) (pe_callB call_len_str (by rfl) T.n_len (by decide +kernel) (pa_cons (pv 2) pa_nil)))))) (pg_name (i := 4) sc_FormReader_take.nd rfl (Or.inl rfl))
        (pss_one (ps_expr (pe_bm PySem.F.plainAttrs_list PySem.F.slot_list_append PySem.F.type_list_append mt_append (pe_fld (pv 0) rfl) (pa_cons (pe_lst (pa_cons (pe_ix ix_kdict (pe_glob (v := .ref A.e_OPENERS) rfl T.mg_OPENERS rfl) (pv 4) (fun _ _ => rfl)) pa_nil)) pa_nil)))))
      (pss_cons (ps_expr (pe_meth (pv 0) T.cl_FormReader T.m_FormReader_add_name GX_FormReader_add_name (hr.mono (by decide)) T.b_FormReader_add_name .nil (passes_call (takes_of rfl rfl rfl rfl) (fun _ _ _ _ h => h)) (pa_cons (pv 3) pa_nil)))
      (pss_one (ps_for (passes_of rfl) rfl (pi_str (pe_slice sl_str (pv 2) (po_some (pe_callB call_len_str (by rfl) T.n_len (by decide +kernel) (pa_cons (pv 3) pa_nil))) po_none)) (pg_name (i := 4) sc_FormReader_take.nd rfl (Or.inl rfl))
        (pss_one (ps_expr (pe_meth (pv 0) T.cl_FormReader T.m_FormReader_close GX_FormReader_close (hr.mono (by decide)) T.b_FormReader_close .nil (passes_call (takes_of rfl rfl rfl rfl) (fun _ _ _ _ h => h)) (pa_cons (pv 4) pa_nil)))))))))), ?_⟩
    have big : 1000000 ≤ sizeLine := by decide
    have lx := Tx_len x
    refine ⟨_, rfl, ⟨_, rfl⟩, _, _, rfl, rfl, by omega, ?_⟩
    rw [strip_l, has_open]
    have ew := My7.parts_eq x
    have eo : (My7.parts x).1 = x.takeWhile opener := rfl
    have ea : x.dropWhile opener = (My7.parts x).2.1 ++ (My7.parts x).2.2 := by
      rw [eo] at ew
      have := List.takeWhile_append_dropWhile (p := opener) (l := x)
      exact List.append_cancel_left (this.trans ew)
    have lw : x.length = (x.takeWhile opener).length + (x.dropWhile opener).length := by
      rw [← List.length_append, List.takeWhile_append_dropWhile]
    have la := Tx_len (x.dropWhile opener)
    refine ⟨_, rfl, ⟨_, rfl⟩, _, _, rfl, rfl, by omega, ?_⟩
    rw [strip_r, has_close]
    have ez : (My7.parts x).2.1 = ((x.dropWhile opener).reverse.dropWhile closer).reverse := rfl
    rw [← ez]
    generalize hz : (My7.parts x).2.1 = z at ea ew
    generalize hc : (My7.parts x).2.2 = c at ea ew
    have lz : (x.dropWhile opener).length = z.length + c.length := by rw [ea, List.length_append]
    have lTz := Tx_len z
    have ep : (⟨s, ns⟩ : Pr).word x = if My7.isName z = true ∧ z ∉ ns ∧ ns.length ≠ 12 then (Pr.closes ((pushes s (x.takeWhile opener)).put (.name z)) c).map fun k => ⟨k, ns ++ [z]⟩ else none := by
      unfold My7.Pr.word
      rw [show My7.parts x = (x.takeWhile opener, z, c) from by rw [← hz, ← hc, ← eo]]
    rw [ep] at k ke
    clear ep hz ez eo
    refine ⟨_, rfl, _, rfl, _, rfl, by omega, _, rfl, _, rfl, by omega, _, _, rfl, rfl, ?_⟩
    have eC : cutS (Tx x) none (some ((((Tx x).length : Nat) : Int) - (((Tx (x.dropWhile opener)).length : Nat) : Int))) = Tx (x.takeWhile opener) := by
      rw [show (((Tx x).length : Nat) : Int) - (((Tx (x.dropWhile opener)).length : Nat) : Int) = (((x.takeWhile opener).length : Nat) : Int) by omega, cutS_Tk]
      congr 1
      conv => lhs; rhs; rw [← List.takeWhile_append_dropWhile (p := opener) (l := x)]
      rw [List.take_left]
    have eD : cutS (Tx (x.dropWhile opener)) (some (((Tx z).length : Nat) : Int)) none = Tx c := by
      rw [lTz, cutS_Dp, ea, List.drop_left]
    refine ⟨_, rfl, _, rfl, by omega, _, rfl, ?_⟩
    rw [eC]
    have ho : ∀ d ∈ x.takeWhile opener, opener d = true := fun d hd => by
      have := List.all_takeWhile (l := x) (p := opener)
      rw [List.all_eq_true] at this
      exact this d hd
    generalize x.takeWhile opener = o at lw k ke ho
    refine for_it walk_str (fun i σ H' => ∃ us', us'.length = us.length + i ∧ Rd A.C_FormReader H0 H' p dn dl us' (pushes s (o.take i)) ns ∧ ∃ u, σ = [some (.ref p), some (.str (Tx x)), some (.str (Tx (x.dropWhile opener))), some (.str (Tx z)), u])
      ⟨us, rfl, R, _, rfl⟩ (fun _ _ _ _ _ => trivial) ?_ ?_
    · rintro i v σ H30 H3 hi ⟨us', hu, R3, u, rfl⟩ ⟨rfl, d, hd, rfl⟩
      have hd := cps_get hd
      have od := ho d (List.mem_of_getElem? hd)
      have hkd : KDct K w A.e_OPENERS (Tx [d]) (.str (kd (d == 91))) := by
        rcases Bool.or_eq_true_iff.mp od with e | e
        · have e : d = 40 := eq_of_beq e
          subst e
          exact T.kd_OPENERS_0
        · have e : d = 91 := eq_of_beq e
          subst e
          exact T.kd_OPENERS_1
      obtain ⟨dx, hp⟩ := R3.ins
      rw [cps_size] at hi
      refine ⟨_, rfl, _, _, _, _, _, rfl, hp, T.cl_FormReader, T.n_FormReader__pieces, fldsR_pieces _ _, .inl ⟨rfl, _, SqL.of R3.pcs⟩, _, rfl, _, _, _, rfl, rfl, hkd, by show 1 ≤ sizeLine; decide, fun l hl => ?_⟩
      refine ⟨dl, _, _, rfl, rfl, same_new hl _ _ R3.pcs, small_int (by rw [List.length_map, List.length_reverse]; omega), ?_⟩
      refine ⟨l :: us', by rw [List.length_cons, hu]; omega, ?_, _, rfl⟩
      rw [take_succ hd, pushes_snoc]
      exact R3.push hl
    · rintro σ H3 ⟨us', hu, R3, u, rfl⟩
      rw [cps_size] at hu R3
      rw [List.take_length] at R3
      obtain ⟨dx, hp⟩ := R3.ins
      refine ⟨_, rfl, p, dx, _, rfl, hp, by unfold fldsR; rw [lookup_putF, if_neg (by decide +kernel), lookup_putF, if_neg (by decide +kernel)]; rfl, _, rfl, p, z, H0, dn, dl, us', _, ns, rfl, R3, by omega, fun hok H4 R4 => ?_, fun hno d H' s' hd => ke (if_neg hno) d H' s' hd⟩
      have hok : My7.isName z = true ∧ z ∉ ns ∧ ns.length ≠ 12 := hok
      rw [if_pos hok] at k ke
      refine ⟨_, rfl, _, rfl, _, rfl, by omega, _, rfl, _, rfl, by omega, _, rfl, ?_⟩
      rw [eD]
      have hcl : ∀ e ∈ c, closer e = true := by rw [← hc]; exact My7.parts_close x
      refine for_it walk_str (fun i σ H' => ∃ us2 t, us2.length ≤ us'.length ∧ Pr.closes ((pushes s o).put (.name z)) (c.take i) = some t ∧ Rd A.C_FormReader H0 H' p dn dl us2 t (ns ++ [z]) ∧ ∃ u, σ = [some (.ref p), some (.str (Tx x)), some (.str (Tx (x.dropWhile opener))), some (.str (Tx z)), u])
        ⟨us', _, Nat.le_refl _, rfl, R4, _, rfl⟩ (fun _ _ _ _ _ => trivial) ?_ ?_
      · rintro i v σ H50 H5 hi ⟨us2, t, hu2, et, R5, u2, rfl⟩ ⟨rfl, d, hd, rfl⟩
        have hd := cps_get hd
        obtain ⟨dx5, hp5⟩ := R5.ins
        refine ⟨_, rfl, p, dx5, _, rfl, hp5, by unfold fldsR; rw [lookup_putF, if_neg (by decide +kernel), lookup_putF, if_neg (by decide +kernel)]; rfl, _, rfl, p, d, H0, dn, dl, us2, t, _, rfl, R5, hcl d (List.mem_of_getElem? hd), fun t2 e2 H6 ut hut R6 => ⟨ut, t2, by omega, ?_, R6, _, rfl⟩, fun e2 d2 H' s' hd2 => ke ?_ d2 H' s' hd2⟩
        · rw [take_succ hd, closes_app, et]
          show (t.close d).bind _ = _
          rw [e2]; rfl
        · have e3 : c = c.take i ++ d :: c.drop (i + 1) := by
            conv => lhs; rw [← List.take_append_drop i c]
            rw [List.drop_eq_getElem_cons (List.getElem?_eq_some_iff.mp hd).1, (List.getElem?_eq_some_iff.mp hd).2]
          rw [e3, closes_app, et]
          show ((t.close d).bind _).map _ = _
          rw [e2]; rfl
      · rintro σ H5 ⟨us2, t, hu2, et, R5, u2, rfl⟩
        rw [cps_size, List.take_length] at et
        rw [et] at k
        exact k _ rfl H5 us2 (by show us2.length ≤ us.length + x.length; omega) R5
theorem at_zero {xs : List V} {x : V} : atI (x :: xs) 0 = some x := by
  show atI _ ((0 : Nat) : Int) = _
  exact atI_nat rfl
theorem one_none {s : Sk} (h : s.open_ ≠ [] ∨ s.base.length ≠ 1) : My7.one s = none := by
  unfold My7.one
  split
  · rename_i f h1 h2
    rcases h with h | h
    · exact absurd h1 h
    · rw [h2] at h; exact absurd rfl h
  · rfl
def spRes (C B : Addr) : Sp := fun vs H Q E => ∃ p H0 dn dl us s ns, vs = [.ref p] ∧ Rd C H0 H p dn dl us s ns ∧
  (∀ f, My7.one s = some f → ∀ v, Fo H v f → Q v H) ∧ (My7.one s = none → ∀ d H', Same H0 H' → H' d = some (.xd [("line", .int 0)]) → E (.ref B) (some d) H')
theorem ok_res (T : Txt P w K mg A) : FnOk P w K mg base (L2.CX P w) 3 A.a_FormReader_result A.d_FormReader_result ["self"] (spRes A.C_FormReader A.C_BadText) := by
  have G_BadText_init := ok_BadText (P := P) (w := w) (base := base) T
  refine funX T.F_FormReader_result sc_FormReader_result (fun vs H Q E h => ?_) (fun cdv A' outer s0 H vs Q E hr h => ?_)
  · obtain ⟨p, H0, dn, dl, us, s, ns, rfl, _⟩ := h
    rfl
  · obtain ⟨p, H0, dn, dl, us, s, ns, rfl, R, k, ke⟩ := h
    refine ⟨_, (pss_cons (ps_if (PW.pt (pw_or (pt_cmpR op_ne (pe_callB call_len_seq (by rfl) T.n_len (by decide +kernel) (pa_cons (pe_fld (pv 0) rfl) pa_nil)) pe_int (nomark _)) (pw_or1 (pt_cmpR op_ne (pe_callB call_len_seq (by rfl) T.n_len (by decide +kernel) (pa_cons (pe_ix ix_list (pe_fld (pv 0) rfl) pe_int (fun _ _ => rfl)) pa_nil)) pe_int (nomark _))))) (pss_one (ps_raise rfl (takes_of rfl rfl rfl rfl) (pmk_oex T.SC_BadText.ox T.ii_BadText T.ti_BadText G_BadText_init (hr.mono (by decide)) T.b_BadText_init .nil pass0 rfl T.mg_BadText (pa_cons pe_int pa_nil)))) pss_nil)
      (pss_one (ps_ret (pe_ix ix_list (pe_ix ix_list (pe_fld (pv 0) rfl) pe_int (fun _ _ => rfl)) pe_int (fun _ _ => rfl))))), ?_⟩
    obtain ⟨dx, hp⟩ := R.ins
    have hlen := R.sk.at_.len
    refine ⟨_, rfl, _, _, _, _, _, rfl, hp, T.cl_FormReader, T.n_FormReader__pieces, fldsR_pieces _ _, dl, _, rfl, .inl (SqL.of R.pcs), rfl, _, rfl, ?_⟩
    obtain ⟨base', op⟩ := s
    cases op with
    | cons a r =>
      have ke := ke (one_none (.inl (List.cons_ne_nil _ _)))
      refine itNeN (fun e => ?_) ?_
      · have := V.int.inj e
        rw [List.length_map, List.length_reverse, hlen] at this
        simp [lev] at this
        omega
      dsimp only
      refine ifT rfl ?_
      refine ⟨(by decide : 1 ≤ 1000), fun a ha => ⟨a, _, rfl, ⟨_, rfl, by decide⟩, upd_same, fun d hd hne => ⟨rfl, d, _, upd_same, by rw [upd_ne hne, upd_same], by rw [upd_ne hne] at hd; exact hd, by rw [upd_ne hne] at hd; exact ke d _ (Same.trans R.same (exc_same ha hd)) upd_same⟩⟩⟩
    | nil =>
      have hlev : lev ⟨base', []⟩ = [(none, base')] := rfl
      obtain ⟨q, ut, o, ps, ls, vs, eu, el, hq, hf, hlv, hnq, nd⟩ := R.sk.top
      rw [hlev] at el
      cases el
      have : ut = [] := by cases ut with | nil => rfl | cons x r => exact hlv.elim
      subst this
      subst eu
      have hl := R.pcs
      have at0 : atI ([q].reverse.map V.ref) 0 = some (V.ref q) := at_zero
      refine itNe rfl ?_
      refine ⟨_, rfl, _, _, _, _, _, rfl, hp, T.cl_FormReader, T.n_FormReader__pieces, fldsR_pieces _ _, dl, _, 0, _, rfl, rfl, SqL.of hl, at0, q, _, rfl, .inl (SqL.of hq), rfl, _, rfl, ?_⟩
      by_cases h1 : base'.length = 1
      · obtain ⟨f, rfl⟩ : ∃ f, base' = [f] := by
          cases base' with
          | nil => cases h1
          | cons f r => cases r with
            | nil => exact ⟨f, rfl⟩
            | cons g r => simp at h1
        obtain ⟨v, rfl⟩ : ∃ v, vs = [v] := by
          cases vs with
          | nil => cases hf
          | cons v r => cases hf with | cons a b => cases b; exact ⟨v, rfl⟩
        refine itNe rfl ?_
        have hv : Fo H v f := by cases hf with | cons a b => exact a
        exact ⟨_, rfl, _, _, _, _, _, rfl, hp, T.cl_FormReader, T.n_FormReader__pieces, fldsR_pieces _ _, dl, _, 0, _, rfl, rfl, SqL.of hl, at0, q, _, 0, _, rfl, rfl, SqL.of hq, at_zero, k f rfl v hv⟩
      · have ke := ke (one_none (.inr h1))
        refine itNeN (fun e => h1 ?_) ?_
        · have := V.int.inj e
          have e2 : (hdK none ++ vs).length = base'.length := hf.len
          rw [e2] at this
          omega
        refine ⟨(by decide : 1 ≤ 1000), fun a ha => ⟨a, _, rfl, ⟨_, rfl, by decide⟩, upd_same, fun d hd hne => ⟨rfl, d, _, upd_same, by rw [upd_ne hne, upd_same], by rw [upd_ne hne] at hd; exact hd, by rw [upd_ne hne] at hd; exact ke d _ (Same.trans R.same (exc_same ha hd)) upd_same⟩⟩⟩
end
end My
set_option maxRecDepth 100000
set_option maxHeartbeats 4000000
namespace My
open PySem L2
open My7 (Fm Sk La Pr showF showL joinSp sgn csgn opener closer pushes)
/-- a reader's own cells left out -/
def mask (H : Hp) (own : List Addr) : Hp := fun a => if a ∈ own then none else H a
theorem mask_in {H : Hp} {own : List Addr} {a : Addr} (h : a ∈ own) : mask H own a = none := if_pos h
theorem mask_out {H : Hp} {own : List Addr} {a : Addr} (h : a ∉ own) : mask H own a = H a := if_neg h
theorem Rd.rebase {C : Addr} {H0 H : Hp} {p dn dl : Addr} {us : List Addr} {s : Sk} {ns : List (List Nat)} (h : Rd C H0 H p dn dl us s ns) : Rd C (mask H (p :: dn :: dl :: us)) H p dn dl us s ns ∧ Same H0 (mask H (p :: dn :: dl :: us)) := by
  refine ⟨⟨h.ins, h.nms, h.pcs, h.sk, h.ndl, fun b o e => ?_, mask_in (by simp), mask_in (by simp), mask_in (by simp), fun q hq => mask_in (by simp [hq]), h.cn, h.n12⟩, fun b o e => ?_⟩
  · unfold mask at e
    split at e
    · cases e
    · exact e
  · rw [mask_out, h.same _ _ e]
    intro hm
    have hb : H0 b = none := by
      simp only [List.mem_cons] at hm
      rcases hm with rfl | rfl | rfl | hm
      · exact h.np
      · exact h.nn
      · exact h.nl
      · exact h.nu b hm
    rw [hb] at e; cases e
def spl32 (l : List Nat) : List (List Nat) := TL.spl [32] 0 [] l
theorem split_Tx (l : List Nat) : Txt.split (Tx l) " " = (spl32 l).map Tx := by
  apply TL.map_tl_inj
  rw [TL.split_spl _ _ (by rw [tl_sp]; simp) (TL.kind_ok (by decide +kernel)), tl_sp, List.map_map, show TL.tl ∘ Tx = id from funext fun l => rfl, List.map_id]
  rfl
theorem spl_no : ∀ (l acc : List Nat), 32 ∉ acc → ∀ p ∈ TL.spl [32] 0 acc l, 32 ∉ p
  | [], acc, h, p, hp => by
    rw [TL.spl_nil] at hp
    rw [List.mem_singleton.mp hp]; exact h
  | c :: r, acc, h, p, hp => by
    by_cases e : c = 32
    · subst e
      have hh : TL.pre [32] (32 :: r) = true := rfl
      rw [TL.spl_hit hh] at hp
      rcases List.mem_cons.mp hp with rfl | hp
      · exact h
      · exact spl_no r [] (fun z => nomatch z) p hp
    · rw [TL.spl_miss (TL.pre_of_head [] r e)] at hp
      refine spl_no r (acc ++ [c]) (fun z => ?_) p hp
      rcases List.mem_append.mp z with z | z
      · exact h z
      · exact e (List.mem_singleton.mp z).symm
theorem spl_ne (l acc : List Nat) : TL.spl [32] 0 acc l ≠ [] := by
  induction l generalizing acc with
  | nil => rw [TL.spl_nil]; exact List.cons_ne_nil _ _
  | cons c r ih =>
    by_cases e : c = 32
    · subst e
      have hh : TL.pre [32] (32 :: r) = true := rfl
      rw [TL.spl_hit hh]; exact List.cons_ne_nil _ _
    · rw [TL.spl_miss (TL.pre_of_head [] r e)]; exact ih _
theorem join_cons {w : List Nat} {r : List (List Nat)} (h : r ≠ []) : My7.join (w :: r) = w ++ 32 :: My7.join r := by
  cases r with
  | nil => exact absurd rfl h
  | cons v t => rfl
theorem spl_join (l : List Nat) : ∀ acc, My7.join (TL.spl [32] 0 acc l) = acc ++ l := by
  induction l with
  | nil => intro acc; rw [TL.spl_nil, List.append_nil]; rfl
  | cons c r ih =>
    intro acc
    by_cases e : c = 32
    · subst e
      have hh : TL.pre [32] (32 :: r) = true := rfl
      rw [TL.spl_hit hh]
      show My7.join (acc :: TL.spl [32] 0 [] r) = _
      rw [join_cons (spl_ne _ _), ih []]; rfl
    · rw [TL.spl_miss (TL.pre_of_head [] r e), ih]; simp
theorem join32 (l : List Nat) : My7.join (spl32 l) = l := spl_join l []
theorem join_len2 : ∀ l : List (List Nat), (l.map List.length).sum + l.length ≤ (My7.join l).length + 1
  | [] => Nat.zero_le _
  | [p] => by simp [My7.join]
  | p :: q :: r => by
    have := join_len2 (q :: r)
    show p.length + ((q :: r).map List.length).sum + ((q :: r).length + 1) ≤ (p ++ 32 :: My7.join (q :: r)).length + 1
    have e : (p ++ 32 :: My7.join (q :: r)).length = p.length + ((My7.join (q :: r)).length + 1) := by rw [List.length_append, List.length_cons]
    omega
theorem spl_len (l : List Nat) : ((spl32 l).map List.length).sum + (spl32 l).length ≤ l.length + 1 := by
  have := join_len2 (spl32 l)
  rw [join32] at this
  exact this
def pr0 : Pr := ⟨⟨[], []⟩, []⟩
/-- what the program reads -/
def readP (l : List Nat) : Option Fm := if l = [40, 41] then some (.node false []) else (pr0.words (spl32 l)).bind Pr.fin
theorem words_app : ∀ (a b : List (List Nat)) (s : Pr), s.words (a ++ b) = (s.words a).bind fun t => t.words b
  | [], _, _ => rfl
  | c :: r, b, s => by
    show (s.word c).bind (fun t => t.words (r ++ b)) = ((s.word c).bind fun t => t.words r).bind _
    cases s.word c with
    | none => rfl
    | some t => exact words_app r b t
section
variable {P : Program} {w : World} {K : PySem.W.Frag} {mg : Str → Option Value} {base : Heap} {A : Ad}
def spIni (C : Addr) : Sp := fun vs H Q _ => ∃ p dx, vs = [.ref p] ∧ H p = some (.ins C dx []) ∧ ∀ H' dn dl q, H dn = none → H dl = none → H q = none → dl ≠ q → (∀ b o, H b = some o → b ≠ p → H' b = some o) →
  H' p = some (.ins C dx (fldsR dn dl)) → H' dn = some (.dK []) → H' q = some (.lst []) → H' dl = some (.lst [.ref q]) → Q .non H'
theorem ok_ini (T : Txt P w K mg A) : FnOk P w K mg base CX0 1 A.a_FormReader_init A.d_FormReader_init ["self"] (spIni A.C_FormReader) := by
  refine T.F_FormReader_init.ok sc_FormReader_init (fun vs H Q E h => ?_) (fun cdv A' outer s H vs Q E hr h => ?_)
  · obtain ⟨p, dx, rfl, _⟩ := h
    rfl
  · obtain ⟨p, dx, rfl, hp, k⟩ := h
    refine ⟨_, (pss_cons (ps_fld (pv 0) pe_dnewK rfl)
      (pss_one (ps_fld (pv 0) (pe_lst (pa_cons (pe_lst pa_nil) pa_nil)) rfl))), ?_⟩
    refine fun dn hdn => ⟨_, rfl, p, _, dx, _, rfl, same_new hdn _ _ hp, T.cl_FormReader, T.n_FormReader__names, by decide, ?_⟩
    have ndp : dn ≠ p := fun e => by rw [e, hp] at hdn; cases hdn
    have h1p := upd_same (H := upd H dn (.dK [])) (a := p) (o := .ins A.C_FormReader dx (putF "_names" (.ref dn) []))
    have h1n : upd (upd H dn (.dK [])) p (.ins A.C_FormReader dx (putF "_names" (.ref dn) [])) dn = some (.dK []) := by rw [upd_ne ndp, upd_same]
    have keep : ∀ b o, H b = some o → b ≠ p → upd (upd H dn (.dK [])) p (.ins A.C_FormReader dx (putF "_names" (.ref dn) [])) b = some o := fun b o e hb => by
      rw [upd_ne hb]; exact same_new hdn _ _ e
    have fresh : ∀ b, upd (upd H dn (.dK [])) p (.ins A.C_FormReader dx (putF "_names" (.ref dn) [])) b = none → H b = none := fun b e => by
      cases e2 : H b with
      | none => rfl
      | some o =>
        by_cases hb : b = p
        · rw [hb, upd_same] at e; cases e
        · rw [keep b o e2 hb] at e; cases e
    generalize upd (upd H dn (.dK [])) p _ = H1 at h1p h1n keep fresh ⊢
    refine ⟨by show 0 ≤ sizeLine; decide, fun q hq => ⟨by show 1 ≤ sizeLine; decide, fun dl hdl => ?_⟩⟩
    have s2 := (same_new (o := .lst []) hq).trans (same_new (o := .lst [V.ref q]) hdl)
    have hq2 := same_new (o := .lst [V.ref q]) hdl _ _ (upd_same (H := H1) (a := q) (o := .lst []))
    have hl2 := upd_same (H := upd H1 q (.lst [])) (a := dl) (o := .lst [V.ref q])
    have dlq : dl ≠ q := fun e => by rw [e, upd_same] at hdl; cases hdl
    have hdl' : H1 dl = none := by rw [upd_ne dlq] at hdl; exact hdl
    have hq0 := fresh q hq
    have hd0 := fresh dl hdl'
    have qp : p ≠ q := fun e => by rw [← e, h1p] at hq; cases hq
    have dp : p ≠ dl := fun e => by rw [← e, h1p] at hdl'; cases hdl'
    have qn : dn ≠ q := fun e => by rw [← e, h1n] at hq; cases hq
    have ln : dn ≠ dl := fun e => by rw [← e, h1n] at hdl'; cases hdl'
    generalize upd (upd H1 q _) dl _ = H2 at s2 hq2 hl2 ⊢
    refine ⟨_, rfl, p, _, dx, _, rfl, s2 _ _ h1p, T.cl_FormReader, T.n_FormReader__pieces, by rw [show (putF ("_names" : Str) (V.ref dn) []).length = 1 from rfl]; decide, ?_⟩
    refine k _ dn dl q hdn hd0 hq0 dlq (fun b o e hb => by rw [upd_ne hb]; exact s2 _ _ (keep b o e hb)) upd_same ?_ ?_ ?_
    · rw [upd_ne ndp]; exact s2 _ _ h1n
    · rw [upd_ne qp.symm]; exact hq2
    · rw [upd_ne dp.symm]; exact hl2
/-- read_form -/
def spReadX (B : Addr) : Sp := fun vs H Q E => ∃ l, vs = [.str (Tx l)] ∧ l.length ≤ 800000 ∧ (∀ f, readP l = some f → ∀ v H', Same H H' → Fo H' v f → Q v H') ∧
  (readP l = none → ∀ d H', Same H H' → H' d = some (.xd [("line", .int 0)]) → E (.ref B) (some d) H')
theorem ok_readX (T : Txt P w K mg A) : FnOk P w K mg base (L2.CX P w) 6 A.a_read_form A.d_read_form ["text"] (spReadX A.C_BadText) := by
  have G_FormReader_init := ok_ini (P := P) (w := w) (base := base) T
  have GX_FormReader_take := ok_take (P := P) (w := w) (base := base) T
  have GX_FormReader_result := ok_res (P := P) (w := w) (base := base) T
  refine funX T.F_read_form sc_read_form (fun vs H Q E h => ?_) (fun cdv A' outer s0 H vs Q E hr h => ?_)
  · obtain ⟨l, rfl, _⟩ := h
    rfl
  · obtain ⟨l, rfl, hl, k, ke⟩ := h
    refine ⟨_, (pss_cons (ps_if (pt_cmpR op_eq (pv 0) pe_str (nomark _)) (pss_one (ps_ret (pe_tup pa_nil))) pss_nil)
      (pss_cons (ps_set (i := 1) sc_read_form.nd rfl (Or.inl rfl) (pe_make0 T.mk_FormReader G_FormReader_init (hr.mono (by decide)) rfl T.mg_FormReader T.b_FormReader_init .nil pass0))
      (pss_cons (ps_for (passes_of rfl) rfl (pi_list (pe_m1 PySem.F.slot_str_split PySem.F.type_str_split mt_split (pv 0) pe_str)) (pg_name (i := 2) sc_read_form.nd rfl (Or.inl rfl))
        (pss_one (ps_expr (pe_meth (pv 1) T.cl_FormReader T.m_FormReader_take GX_FormReader_take (hr.mono (by decide)) T.b_FormReader_take .nil (passes_call (takes_of rfl rfl rfl rfl) (fun _ _ _ _ h => h)) (pa_cons (pv 2) pa_nil)))))
      (pss_one (ps_ret (pe_meth0 (pv 1) T.cl_FormReader T.m_FormReader_result GX_FormReader_result (hr.mono (by decide)) T.b_FormReader_result .nil (passes_call (takes_of rfl rfl rfl rfl) (fun _ _ _ _ h => h)))))))), ?_⟩
    have big : 1000000 ≤ sizeLine := by decide
    have ll := Tx_len l
    refine ⟨_, rfl, rfl, _, rfl, ?_⟩
    by_cases h0 : l = [40, 41]
    · subst h0
      refine itY (by decide) ⟨by show 0 ≤ sizeLine; decide, fun t ht => k _ rfl _ _ (same_new ht) (.nil upd_same)⟩
    refine itN (fun e => h0 ?_) ?_
    · have e := V.str.inj e
      have : TL.tl (Tx l) = TL.tl ("()" : Str) := by rw [e]
      rw [tl_Tx, show TL.tl ("()" : Str) = [40, 41] by decide] at this
      exact this
    unfold readP at k ke
    rw [if_neg h0] at k ke
    refine fun p dx np ndx hne => ⟨p, dx, rfl, upd_same, fun H1 dn dl q hdn hdl hq hlq keep h1p h1n h1q h1l => ⟨rfl, ?_⟩⟩
    have fresh : ∀ b, upd (upd H dx (.own p)) p (.ins A.C_FormReader dx []) b = none → H b = none := fun b e => by
      cases e2 : H b with
      | none => rfl
      | some o =>
        rw [upd_ne (ne_of_none e2 np), upd_ne (ne_of_none e2 ndx), e2] at e; cases e
    have s1 : Same H H1 := fun b o e => keep b o (by rw [upd_ne (ne_of_none e np), upd_ne (ne_of_none e ndx)]; exact e) (ne_of_none e np)
    have R1 : Rd A.C_FormReader H H1 p dn dl [q] ⟨[], []⟩ [] := ⟨⟨dx, h1p⟩, h1n, h1l, ⟨by simp, ⟨⟨[], h1q, .nil⟩, trivial⟩⟩, fun e => hlq (List.mem_singleton.mp e), s1, np, fresh _ hdn, fresh _ hdl, fun x hx => by rw [List.mem_singleton.mp hx]; exact fresh _ hq, Nat.le_refl _, Nat.zero_le _⟩
    clear fresh keep h1p h1n h1q h1l
    refine ⟨_, rfl, ⟨_, rfl⟩, Tx l, _, rfl, rfl, rfl, by omega, fun L hL => ?_⟩
    have R2 := R1.more (same_new (o := .lst (((Txt.split (Tx l) " ")).map V.str)) hL)
    have hL2 := upd_same (H := H1) (a := L) (o := .lst (((Txt.split (Tx l) " ")).map V.str))
    generalize upd H1 L _ = H2 at R2 hL2 ⊢
    rw [split_Tx] at hL2
    obtain ⟨R3, s3⟩ := R2.rebase
    have hL3 : mask H2 (p :: dn :: dl :: [q]) L = some (.lst (((spl32 l).map Tx).map V.str)) := by
      rw [mask_out]
      · exact hL2
      · have z1 := R1.ins
        obtain ⟨dx1, z1⟩ := z1
        have z2 := R1.sk.at_.lst (List.mem_singleton.mpr rfl)
        obtain ⟨xs, z2⟩ := z2
        simp only [List.mem_cons, List.not_mem_nil, or_false, not_or]
        exact ⟨(ne_of_none z1 hL).symm, (ne_of_none R1.nms hL).symm, (ne_of_none R1.pcs hL).symm, (ne_of_none z2 hL).symm⟩
    generalize mask H2 (p :: dn :: dl :: [q]) = H3 at R3 s3 hL3
    have hlen := spl_len l
    refine ⟨L, rfl, ⟨_, SqL.of hL2⟩, for_it (walk_list (xs := ((spl32 l).map Tx).map V.str)) (fun i σ H4 => ∃ us t, us.length ≤ 1 + (((spl32 l).take i).map List.length).sum ∧ pr0.words ((spl32 l).take i) = some t ∧ Rd A.C_FormReader H3 H4 p dn dl us t.sk t.names ∧ ∃ u, σ = [some (.str (Tx l)), some (.ref p), u])
      ⟨[q], pr0, Nat.le_refl _, rfl, R3, _, rfl⟩ (fun i σ H4 _ h => ?_) ?_ ?_⟩
    · obtain ⟨us, t, _, _, R4, _⟩ := h
      exact SqL.of (R4.same _ _ hL3)
    · rintro i x σ H40 H4 hi ⟨us, t, hu, et, R4, u, rfl⟩ ⟨rfl, hx⟩
      rw [List.getElem?_map, List.getElem?_map] at hx
      cases hw : (spl32 l)[i]? with
      | none => rw [hw] at hx; cases hx
      | some wd =>
        rw [hw] at hx
        cases hx
        have hsum : (((spl32 l).take (i + 1)).map List.length).sum = (((spl32 l).take i).map List.length).sum + wd.length := by
          rw [take_succ hw, List.map_append, List.sum_append]; simp
        have hle : (((spl32 l).take (i + 1)).map List.length).sum ≤ ((spl32 l).map List.length).sum := by
          conv => rhs; rw [← List.take_append_drop (i + 1) (spl32 l)]
          rw [List.map_append, List.sum_append]; exact Nat.le_add_right _ _
        obtain ⟨dx4, hp4⟩ := R4.ins
        refine ⟨_, rfl, p, dx4, _, rfl, hp4, by unfold fldsR; rw [lookup_putF, if_neg (by decide +kernel), lookup_putF, if_neg (by decide +kernel)]; rfl, _, rfl, p, wd, H3, dn, dl, us, t.sk, t.names, rfl, R4, by omega, fun t2 e2 H5 ut hut R5 => ⟨ut, t2, by omega, ?_, R5, _, rfl⟩, fun e2 d2 H' s' hd2 => ke ?_ d2 H' (s3.trans s') hd2⟩
        · rw [take_succ hw, words_app, et]
          show (t.word wd).bind _ = _
          have e2 : t.word wd = some t2 := e2
          rw [e2]; rfl
        · have e3 : spl32 l = (spl32 l).take i ++ wd :: (spl32 l).drop (i + 1) := by
            conv => lhs; rw [← List.take_append_drop i (spl32 l)]
            rw [List.drop_eq_getElem_cons (List.getElem?_eq_some_iff.mp hw).1, (List.getElem?_eq_some_iff.mp hw).2]
          rw [e3, words_app, et]
          show ((t.word wd).bind _).bind _ = _
          have e2 : t.word wd = none := e2
          rw [e2]; rfl
    · rintro σ H4 ⟨us, t, hu, et, R4, u, rfl⟩
      rw [List.length_map, List.length_map, List.take_length] at et
      rw [et] at k ke
      obtain ⟨dx4, hp4⟩ := R4.ins
      exact ⟨_, rfl, p, dx4, _, rfl, hp4, by unfold fldsR; rw [lookup_putF, if_neg (by decide +kernel), lookup_putF, if_neg (by decide +kernel)]; rfl, p, H3, dn, dl, us, t.sk, t.names, rfl, R4, fun f hf v hv => k f hf v H4 (s3.trans R4.same) hv, fun e d2 H' s' hd2 => ke e d2 H' (s3.trans s') hd2⟩
/-- read_form of a good text -/
def spRead : Sp := fun vs H Q _ => ∃ l f, vs = [.str (Tx l)] ∧ l.length ≤ 800000 ∧ readP l = some f ∧ ∀ v H', Same H H' → Fo H' v f → Q v H'
theorem ok_read (T : Txt P w K mg A) : FnOk P w K mg base CX0 6 A.a_read_form A.d_read_form ["text"] spRead :=
  quiet (ok_readX T) fun vs H Q E h => by
    obtain ⟨l, f, rfl, hl, e, k⟩ := h
    exact ⟨l, rfl, hl, fun g hg v H' s' hv => by rw [e] at hg; cases hg; exact k v H' s' hv, fun hn => by rw [e] at hn; cases hn⟩
end
end My
set_option maxRecDepth 100000
set_option maxHeartbeats 4000000
set_option exponentiation.threshold 10000
namespace My
open PySem L2
theorem mulW {i j : Int} (hi : i.natAbs < 2 ^ 9000) (hj : j.natAbs < 2 ^ 9000) : CMulW i j := wide_mul hi hj (by decide) (by decide) (by decide)
theorem atI_ok {xs : List Int} {j : Int} (h0 : 0 ≤ j) (h1 : j < xs.length) : ∃ v, v ∈ xs ∧ atI (xs.map V.int) j = some (V.int v) := by
  have hj : j.toNat < xs.length := by omega
  refine ⟨xs[j.toNat], List.getElem_mem hj, ?_⟩
  have e : (xs.map V.int)[j.toNat]? = some (V.int xs[j.toNat]) := by rw [List.getElem?_map, List.getElem?_eq_getElem hj]; rfl
  have := atI_nat e
  rw [show ((j.toNat : Nat) : Int) = j by omega] at this
  exact this
theorem len_map_int (xs : List Int) : (xs.map V.int).length = xs.length := List.length_map ..
/-- a pool of draws -/
def Pool (ns : List Int) : Prop := ∀ x ∈ ns, 0 ≤ x ∧ x < 27720
theorem Pool.nil : Pool [] := fun x h => nomatch h
theorem Pool.app {ns : List Int} {x : Int} (h : Pool ns) (h0 : 0 ≤ x) (h1 : x < 27720) : Pool (ns ++ [x]) := fun y hy => by
  rcases List.mem_append.mp hy with hy | hy
  · exact h y hy
  · cases List.mem_singleton.mp hy; exact ⟨h0, h1⟩
theorem upd_app {H : Hp} {l : Addr} {ps : List Int} {x : Int} : upd (upd H l (.lst (ps.map V.int))) l (.lst (ps.map V.int ++ [V.int x])) = upd H l (.lst ((ps ++ [x]).map V.int)) := by
  rw [upd_upd, List.map_append]
  rfl
theorem mod_sz {x m : Int} {k : Nat} (h : 0 < m) (hk : m.natAbs < 2 ^ k) : (x % m).natAbs < 2 ^ k := by
  have h1 := Int.emod_nonneg x (Int.ne_of_gt h)
  have h2 := Int.emod_lt_of_pos x h
  omega
def spCell (K : PySem.W.Frag) : Sp := fun vs H Q _ => ∃ (a : Addr) (ns : List Int) (k : Int), vs = [.ref a, .int k] ∧ SqL K H a (ns.map V.int) ∧ 0 ≤ k ∧ ∀ z, Q (.int z) H
def spPool (K : PySem.W.Frag) : Sp := fun vs H Q _ => ∃ (a : Addr) (ns : List Int) (k c : Int), vs = [.ref a, .int k, .int c] ∧ SqL K H a (ns.map V.int) ∧ 0 ≤ k ∧ 0 ≤ c ∧ c ≤ 1000 ∧
  ∀ p ps H', Same H H' → H' p = some (.lst (ps.map V.int)) → (ps.length : Int) = c → Pool ps → Q (.ref p) H'
section
variable {P : Program} {w : World} {K : PySem.W.Frag} {mg : Str → Option Value} {base : Heap} {A : Ad}
theorem ok_cell (T : Txt P w K mg A) : FnOk P w K mg base CX0 1 A.a_law_cell A.d_law_cell ["script", "k"] (spCell K) := by
  refine T.F_law_cell.ok sc_law_cell (fun vs H Q E h => ?_) (fun cdv A' outer s H vs Q E hr h => ?_)
  · obtain ⟨a, ns, k, rfl, _⟩ := h
    rfl
  · obtain ⟨a, ns, i, rfl, hS, h0, k⟩ := h
    refine ⟨_, (pss_cons (ps_if (pt_cmpR op_lt (pv 1) (pe_callB call_len_seq (by rfl) T.n_len (by decide +kernel) (pa_cons (pv 0) pa_nil)) (nomark _)) (pss_one (ps_ret (pe_ix ix_list (pv 0) (pv 1) (fun _ _ => rfl)))) pss_nil)
      (pss_one (ps_ret pe_int))), ?_⟩
    refine ⟨_, rfl, _, rfl, _, _, rfl, .inl hS, _, _, rfl, rfl, _, rfl, ?_⟩
    by_cases hi : i < ((ns.map V.int).length : Int)
    · refine itY hi ?_
      obtain ⟨v, hv, e⟩ := atI_ok (xs := ns) h0 (by rw [len_map_int] at hi; exact hi)
      exact ⟨_, rfl, _, rfl, _, _, _, _, rfl, rfl, hS, e, k v⟩
    · refine itN hi ?_
      exact k 0
theorem ok_pool (T : Txt P w K mg A) : FnOk P w K mg base CX0 2 A.a_law_pool A.d_law_pool ["script", "k", "count"] (spPool K) := by
  have G_law_cell : FnOk P w K mg base CX0 1 A.a_law_cell A.d_law_cell ["script", "k"] (spCell K) := ok_cell T
  refine T.F_law_pool.ok sc_law_pool (fun vs H Q E h => ?_) (fun cdv A' outer s H vs Q E hr h => ?_)
  · obtain ⟨a, ns, k, c, rfl, _⟩ := h
    rfl
  · obtain ⟨a, ns, i, c, rfl, hS, h0, hc0, hc, k⟩ := h
    refine ⟨_, (pss_cons (ps_set (i := 3) sc_law_pool.nd rfl (Or.inl rfl) (pe_callB call_abs (by rfl) T.n_abs (by decide +kernel) (pa_cons (pe_call G_law_cell (hr.mono (by decide)) rfl T.mg_law_cell T.F_law_cell.kp T.b_law_cell .nil pass0 (pa_cons (pv 0) (pa_cons (pv 1) pa_nil))) pa_nil)))
      (pss_cons (ps_set (i := 4) sc_law_pool.nd rfl (Or.inl rfl) (pe_lst pa_nil))
      (pss_cons (ps_if (pt_cmpR op_ge (pv 3) (pe_op op_pow pe_int pe_int) (nomark _)) (pss_cons (ps_set (i := 3) sc_law_pool.nd rfl (Or.inl rfl) (pe_op op_sub (pv 3) (pe_op op_pow pe_int pe_int)))
      (pss_cons (ps_for PassesOwn.never rfl (pi_range1 (by rfl) T.n_range (pa_cons (pv 2) pa_nil)) (pg_name (i := 5) sc_law_pool.nd rfl (Or.inl rfl))
        (pss_cons (ps_expr (pe_bm PySem.F.plainAttrs_list PySem.F.slot_list_append PySem.F.type_list_append mt_append (pv 4) (pa_cons (pe_op op_mod (pe_callTy call_int1 (by rfl) T.n_int (by decide +kernel) (pa_cons (pv 3) pa_nil)) pe_int) pa_nil)))
      (pss_one (ps_set (i := 3) sc_law_pool.nd rfl (Or.inl rfl) (pe_op op_fdiv (pv 3) pe_int)))))
      (pss_one (ps_ret (pv 4))))) pss_nil)
      (pss_cons (ps_for PassesOwn.never rfl (pi_range1 (by rfl) T.n_range (pa_cons (pv 2) pa_nil)) (pg_name (i := 5) sc_law_pool.nd rfl (Or.inl rfl))
        (pss_cons (ps_set (i := 6) sc_law_pool.nd rfl (Or.inl rfl) (pe_op op_mod (pe_callTy call_int1 (by rfl) T.n_int (by decide +kernel) (pa_cons (pe_op op_add (pe_op op_add (pe_op op_add (pe_op op_mul (pv 3) pe_int) (pe_op op_mul (pe_op op_add (pv 5) pe_int) pe_int)) (pe_op op_mul (pv 1) pe_int)) pe_int) pa_nil)) pe_int))
      (pss_cons (ps_set (i := 7) sc_law_pool.nd rfl (Or.inl rfl) (pe_op op_mod (pe_callTy call_int1 (by rfl) T.n_int (by decide +kernel) (pa_cons (pe_op op_add (pe_op op_add (pe_op op_mulW (pv 6) (pv 6)) (pe_op op_mul (pv 3) pe_int)) (pv 5)) pa_nil)) pe_int))
      (pss_cons (ps_set (i := 8) sc_law_pool.nd rfl (Or.inl rfl) (pe_op op_mod (pe_callTy call_int1 (by rfl) T.n_int (by decide +kernel) (pa_cons (pe_op op_add (pe_op op_mulW (pv 7) (pv 7)) (pv 6)) pa_nil)) pe_int))
      (pss_one (ps_expr (pe_bm PySem.F.plainAttrs_list PySem.F.slot_list_append PySem.F.type_list_append mt_append (pv 4) (pa_cons (pe_op op_mod (pe_callTy call_int1 (by rfl) T.n_int (by decide +kernel) (pa_cons (pe_op op_fdiv (pv 8) pe_int) pa_nil)) pe_int) pa_nil))))))))
      (pss_one (ps_ret (pv 4))))))), ?_⟩
    refine ⟨_, rfl, _, rfl, a, ns, i, rfl, hS, h0, fun z => ⟨_, rfl, ?_⟩⟩
    refine ⟨by show 0 ≤ sizeLine; decide, fun l hl => ?_⟩
    refine ⟨_, rfl, _, _, rfl, rfl, ⟨by decide, by decide, by decide⟩, _, _, rfl, rfl, _, rfl, ?_⟩
    have fin : ∀ ps : List Int, ps.length = c.toNat → Pool ps → Q (.ref l) (upd H l (.lst (ps.map V.int))) := fun ps h1 h2 => k l ps _ (same_new hl) upd_same (by omega) h2
    refine ite2 (fun hb => ?_) (fun hb => ?_)
    · refine ⟨_, rfl, _, _, rfl, rfl, ⟨by decide, by decide, by decide⟩, _, _, rfl, rfl, ?_⟩
      refine ⟨_, rfl, c, rfl, by omega, by omega, for_range (n := c.toNat) (fun j σ H2 => ∃ (v : Int) (ps : List Int) (u : Option V), σ = [some (.ref a), some (.int i), some (.int c), some (.int v), some (.ref l), u, none, none, none] ∧
        H2 = upd H l (.lst (ps.map V.int)) ∧ ps.length = j ∧ Pool ps) ⟨_, [], none, rfl, rfl, rfl, Pool.nil⟩ ?_ ?_⟩
      · rintro j σ H2 hj ⟨v, ps, u, rfl, rfl, hl2, hp⟩
        refine ⟨_, rfl, .inl ⟨rfl, _, SqL.of upd_same⟩, _, rfl, .inl ⟨_, rfl, ?_⟩⟩
        refine ⟨_, _, rfl, rfl, by show (0 : Int) < 27720; decide, l, _, _, rfl, rfl, upd_same, small_int (by rw [len_map_int]; omega), ?_⟩
        refine ⟨_, rfl, _, _, rfl, rfl, ⟨by decide, by decide⟩, ?_⟩
        refine ⟨_, ps ++ [v % 27720], _, rfl, ?_, by simp [hl2], hp.app (Int.emod_nonneg _ (by decide)) (Int.emod_lt_of_pos _ (by decide))⟩
        rw [upd_upd, List.map_append]
        rfl
      · rintro σ H2 ⟨v, ps, u, rfl, rfl, hl2, hp⟩
        exact ⟨_, rfl, fin ps hl2 hp⟩
    · refine ⟨_, rfl, c, rfl, by omega, by omega, for_range (n := c.toNat) (fun j σ H2 => ∃ (v : Int) (ps : List Int) (u u1 u2 u3 : Option V), σ = [some (.ref a), some (.int i), some (.int c), some (.int v), some (.ref l), u, u1, u2, u3] ∧
        H2 = upd H l (.lst (ps.map V.int)) ∧ ps.length = j ∧ Pool ps) ⟨_, [], none, none, none, none, rfl, rfl, rfl, Pool.nil⟩ ?_ ?_⟩
      · rintro j σ H2 hj ⟨v, ps, u, u1, u2, u3, rfl, rfl, hl2, hp⟩
        refine ⟨_, rfl, _, _, rfl, rfl, .inr (by decide), _, rfl, _, _, rfl, rfl, _, _, rfl, rfl, .inr (by decide), _, _, rfl, rfl, _, rfl, _, _, rfl, rfl, .inr (by decide), _, _, rfl, rfl, _, _, rfl, rfl, .inl ⟨_, rfl, _, _, rfl, rfl, by show (0 : Int) < 2147483647; decide, ?_⟩⟩
        refine ⟨_, rfl, _, rfl, _, _, rfl, rfl, mulW (mod_sz (by decide) (by decide)) (mod_sz (by decide) (by decide)), _, rfl, _, _, rfl, rfl, .inr (by decide), _, _, rfl, rfl, _, rfl, _, _, rfl, rfl, .inl ⟨_, rfl, _, _, rfl, rfl, by show (0 : Int) < 2147483629; decide, ?_⟩⟩
        refine ⟨_, rfl, _, rfl, _, _, rfl, rfl, mulW (mod_sz (by decide) (by decide)) (mod_sz (by decide) (by decide)), _, rfl, _, _, rfl, rfl, .inl ⟨_, rfl, _, _, rfl, rfl, by show (0 : Int) < 2147483587; decide, ?_⟩⟩
        refine ⟨_, rfl, .inl ⟨rfl, _, SqL.of upd_same⟩, _, rfl, _, _, rfl, rfl, ⟨by decide, by decide⟩, .inl ⟨_, rfl, ?_⟩⟩
        refine ⟨_, _, rfl, rfl, by show (0 : Int) < 27720; decide, l, _, _, rfl, rfl, upd_same, small_int (by rw [len_map_int]; omega), ?_⟩
        exact ⟨_, ps ++ [_], _, _, _, _, rfl, upd_app, by simp [hl2], hp.app (Int.emod_nonneg _ (by decide)) (Int.emod_lt_of_pos _ (by decide))⟩
      · rintro σ H2 ⟨v, ps, u, u1, u2, u3, rfl, rfl, hl2, hp⟩
        exact ⟨_, rfl, fin ps hl2 hp⟩
end
/-! ### drawn names -/
theorem alpha_at : ∀ k : Fin 26, atI (("abcdefghijklmnopqrstuvwxyz" : Str)).cps.toList ((k.val : Nat) : Int) = some (97 + k.val) := by decide +kernel
theorem alpha_ix : ∀ k : Fin 26, Builtin.Str.occurrences ("abcdefghijklmnopqrstuvwxyz" : Str) ⟨#[97 + k.val]⟩ 0 (("abcdefghijklmnopqrstuvwxyz" : Str)).length 1 = [k.val] := by decide +kernel
theorem alpha_len : (("abcdefghijklmnopqrstuvwxyz" : Str)).length ≤ sizeLine := by decide
theorem Letters.app {l m : List Nat} (h : Letters l) (k : Letters m) : Letters (l ++ m) := fun c hc => (List.mem_append.mp hc).elim (h c) (k c)
theorem Letters.one {c : Nat} (h0 : 97 ≤ c) (h1 : c ≤ 122) : Letters [c] := fun d hd => by rw [List.mem_singleton.mp hd]; exact ⟨h0, h1⟩
/-- the word whose last sign has gone t signs on -/
def wat (pre : List Nat) (c t : Nat) : Str := ⟨(pre ++ [97 + (c - 97 + t) % 26]).toArray⟩
theorem wat_len {pre : List Nat} {c t : Nat} : (wat pre c t).length = pre.length + 1 := by
  show ((pre ++ [97 + (c - 97 + t) % 26]).toArray).size = _
  rw [List.size_toArray, List.length_append]; rfl
theorem wat_last {pre : List Nat} {c t : Nat} : atI (wat pre c t).cps.toList (-1) = some (97 + (c - 97 + t) % 26) := by
  show atI (pre ++ [97 + (c - 97 + t) % 26]) (-1) = _
  unfold atI ixN
  rw [if_neg (by decide)]
  have h1 : ((pre ++ [97 + (c - 97 + t) % 26]).length : Int) = (pre.length : Int) + 1 := by rw [List.length_append]; rfl
  have e : (-1 + ((pre ++ [97 + (c - 97 + t) % 26]).length : Int)).toNat = pre.length := by omega
  rw [if_pos (by omega), e]
  simp
theorem wat_next {pre : List Nat} {c t : Nat} : wat pre c (t + 1) = cutS (wat pre c t) none (some (-1)) ++ (⟨#[97 + ((c - 97 + t) % 26 + 1) % 26]⟩ : Str) := by
  apply str_ext
  apply Array.toList_inj.mp
  rw [append_cps, Array.toList_append]
  show pre ++ [97 + (c - 97 + (t + 1)) % 26] = (((pre ++ [97 + (c - 97 + t) % 26]).drop 0).take _) ++ [97 + ((c - 97 + t) % 26 + 1) % 26]
  have h2 : HT.sIx (wat pre c t).length (wat pre c t).length (some (-1)) - HT.sIx (wat pre c t).length 0 none = pre.length := by
    rw [wat_len]
    unfold HT.sIx
    simp
    omega
  rw [h2, List.drop_zero, List.take_left]
  have : (c - 97 + (t + 1)) % 26 = ((c - 97 + t) % 26 + 1) % 26 := by omega
  rw [this]
theorem nodup_le {l : List Str} : ∀ {m : List Str}, l.Nodup → (∀ x ∈ l, x ∈ m) → l.length ≤ m.length := by
  induction l with
  | nil => intro m _ _; exact Nat.zero_le _
  | cons a t ih =>
    intro m nd h
    rw [List.nodup_cons] at nd
    have ha := h a List.mem_cons_self
    have := ih (m := m.erase a) nd.2 fun x hx => (List.mem_erase_of_ne (fun e => nd.1 (by rw [← e]; exact hx))).mpr (h x (List.mem_cons_of_mem _ hx))
    rw [List.length_erase_of_mem ha] at this
    have : 0 < m.length := List.length_pos_of_mem ha
    rw [List.length_cons]
    omega
theorem wat_many {pre : List Nat} {c : Nat} {ns : List Str} (h : ∀ t, t < 26 → wat pre c t ∈ ns) : 26 ≤ ns.length := by
  have nd : ((List.range 26).map (wat pre c)).Nodup := by
    rw [List.nodup_iff_pairwise_ne, List.pairwise_map]
    refine List.Pairwise.imp_of_mem (fun {a b} ha hb hab e => hab ?_) (List.nodup_iff_pairwise_ne.mp List.nodup_range)
    have e1 : pre ++ [97 + (c - 97 + a) % 26] = pre ++ [97 + (c - 97 + b) % 26] := congrArg (fun z : Str => z.cps.toList) e
    have e2 := List.append_cancel_left e1
    have e3 : 97 + (c - 97 + a) % 26 = 97 + (c - 97 + b) % 26 := List.head_eq_of_cons_eq e2
    have := List.mem_range.mp ha
    have := List.mem_range.mp hb
    omega
  have := nodup_le nd fun x hx => by
    obtain ⟨t, ht, rfl⟩ := List.mem_map.mp hx
    exact h t (List.mem_range.mp ht)
  rw [List.length_map, List.length_range] at this
  exact this
theorem sv_inj {a b : List Str} (h : sv a = sv b) : a = b := by
  have : ∀ {a b : List Str}, sv a = sv b → a = b := fun {a b} => by
    intro h
    induction a generalizing b with
    | nil => cases b with | nil => rfl | cons _ _ => cases h
    | cons x t ih =>
      cases b with
      | nil => cases h
      | cons y u =>
        have h1 := List.cons.inj h
        rw [V.str.inj h1.1, ih h1.2]
  exact this h
section
variable {P : Program} {w : World} {K : PySem.W.Frag} {mg : Str → Option Value} {base : Heap} {A : Ad}
def spWord (K : PySem.W.Frag) : Sp := fun vs H Q _ => ∃ (p : Addr) (ns : List Int) (i : Int), vs = [.ref p, .int i] ∧ SqL K H p (ns.map V.int) ∧ Pool ns ∧ 0 ≤ i ∧ i + 2 < ns.length ∧ ∀ z, Good z → Q (.str z) H
theorem ok_word (T : Txt P w K mg A) : FnOk P w K mg base CX0 1 A.a_law_word A.d_law_word ["pool", "at"] (spWord K) := by
  refine T.F_law_word.ok sc_law_word (fun vs H Q E h => ?_) (fun cdv A' outer s H vs Q E hr h => ?_)
  · obtain ⟨p, ns, i, rfl, _⟩ := h
    rfl
  · obtain ⟨p, ns, i, rfl, hS, hp, h0, h1, k⟩ := h
    refine ⟨_, (pss_cons (ps_set (i := 2) sc_law_word.nd rfl (Or.inl rfl) (pe_op op_add (pe_op op_mul (pe_op op_add (pe_op op_mul (pe_ix ix_list (pv 0) (pv 1) (fun _ _ => rfl)) pe_int) (pe_ix ix_list (pv 0) (pe_op op_add (pv 1) pe_int) (fun _ _ => rfl))) pe_int) (pe_ix ix_list (pv 0) (pe_op op_add (pv 1) pe_int) (fun _ _ => rfl))))
      (pss_cons (ps_set (i := 3) sc_law_word.nd rfl (Or.inl rfl) (pe_op op_add pe_int (pe_op op_mod (pe_callTy call_int1 (by rfl) T.n_int (by decide +kernel) (pa_cons (pv 2) pa_nil)) pe_int)))
      (pss_cons (ps_set (i := 2) sc_law_word.nd rfl (Or.inl rfl) (pe_op op_fdiv (pv 2) pe_int))
      (pss_cons (ps_set (i := 4) sc_law_word.nd rfl (Or.inl rfl) pe_str)
      (pss_cons (ps_for PassesOwn.never rfl (pi_range1 (by rfl) T.n_range (pa_cons (pv 3) pa_nil)) (pg_name (i := 5) sc_law_word.nd rfl (Or.inl rfl))
        (pss_cons (ps_set (i := 4) sc_law_word.nd rfl (Or.inl rfl) (pe_op op_add_str (pv 4) (pe_ix ix_str pe_str (pe_op op_mod (pe_callTy call_int1 (by rfl) T.n_int (by decide +kernel) (pa_cons (pv 2) pa_nil)) pe_int) (fun _ _ => rfl))))
      (pss_one (ps_set (i := 2) sc_law_word.nd rfl (Or.inl rfl) (pe_op op_fdiv (pv 2) pe_int)))))
      (pss_one (ps_ret (pv 4)))))))), ?_⟩
    obtain ⟨x0, hx0, e0⟩ := atI_ok (xs := ns) (j := i) h0 (by omega)
    obtain ⟨x1, hx1, e1⟩ := atI_ok (xs := ns) (j := i + 1) (by omega) (by omega)
    obtain ⟨x2, hx2, e2⟩ := atI_ok (xs := ns) (j := i + 2) (by omega) (by omega)
    have y0 := hp x0 hx0
    have y1 := hp x1 hx1
    have y2 := hp x2 hx2
    refine ⟨_, rfl, _, rfl, _, _, _, _, rfl, rfl, hS, e0, _, _, rfl, rfl, .inr (by decide), _, rfl, _, rfl, _, _, rfl, rfl, _, _, _, _, rfl, rfl, hS, e1, _, _, rfl, rfl, _, _, rfl, rfl, .inr (by decide), _, rfl, _, rfl, _, _, rfl, rfl, _, _, _, _, rfl, rfl, hS, e2, _, _, rfl, rfl, ?_⟩
    dsimp only
    generalize hc : ((x0 * 27720 + x1) * 27720 + x2) = code
    have hc0 : 0 ≤ code := by omega
    have m0 := Int.emod_nonneg code (show (8 : Int) ≠ 0 by decide)
    have m1 := Int.emod_lt_of_pos code (show (0 : Int) < 8 by decide)
    refine ⟨_, rfl, .inl ⟨_, rfl, _, _, rfl, rfl, by show (0 : Int) < 8; decide, _, _, rfl, rfl, ?_⟩⟩
    refine ⟨_, rfl, _, _, rfl, rfl, ⟨by decide, by decide⟩, ?_⟩
    dsimp only
    generalize hsz : (1 : Int) + code % 8 = size
    refine ⟨_, rfl, size, rfl, by omega, by omega, for_range (n := size.toNat) (fun j σ H2 => H2 = H ∧ ∃ (c : Int) (z : Str) (u : Option V), σ = [some (.ref p), some (.int i), some (.int c), some (.int size), some (.str z), u] ∧ 0 ≤ c ∧ z.length = j ∧ Letters z.cps.toList)
      ⟨rfl, code / 8, ("" : Str), none, rfl, Int.ediv_nonneg hc0 (by decide), by decide, by rw [show (("" : Str)).cps.toList = [] by decide]; exact fun c hc => nomatch hc⟩ ?_ ?_⟩
    · rintro j σ H2 hj ⟨rfl, c, z, u, rfl, hc1, hl, hlet⟩
      have n0 := Int.emod_nonneg c (show (26 : Int) ≠ 0 by decide)
      have n1 := Int.emod_lt_of_pos c (show (0 : Int) < 26 by decide)
      have ea := alpha_at ⟨(c % 26).toNat, by omega⟩
      have ea : atI (("abcdefghijklmnopqrstuvwxyz" : Str)).cps.toList (((c % 26).toNat : Nat) : Int) = some (97 + (c % 26).toNat) := ea
      rw [show (((c % 26).toNat : Nat) : Int) = c % 26 by omega] at ea
      refine ⟨_, rfl, _, rfl, .inl ⟨_, rfl, _, _, rfl, rfl, by show (0 : Int) < 26; decide, _, _, _, rfl, rfl, alpha_len, ea, _, _, rfl, rfl, ?_, ?_⟩⟩
      · show z.length + 1 ≤ sizeLine
        rw [hl]
        have : j + 1 ≤ 8 := by omega
        exact Nat.le_trans this (by decide)
      · refine ⟨_, rfl, _, _, rfl, rfl, ⟨by decide, by decide⟩, rfl, c / 26, _, _, rfl, Int.ediv_nonneg hc1 (by decide), ?_, ?_⟩
        · rw [Str.length_append, hl]; rfl
        · rw [append_cps, Array.toList_append]
          exact hlet.app (Letters.one (by omega) (by omega))
    · rintro σ H2 ⟨rfl, c, z, u, rfl, hc1, hl, hlet⟩
      exact ⟨_, rfl, k z ⟨by omega, by omega, hlet⟩⟩
def spNew (K : PySem.W.Frag) : Sp := fun vs H Q _ => ∃ (l : Addr) (ns : List Str) (z : Str), vs = [.ref l, .str z] ∧ SqL K H l (sv ns) ∧ ns.length ≤ 25 ∧ Good z ∧ ∀ z', Good z' → z' ∉ ns → Q (.str z') H
theorem ok_new (T : Txt P w K mg A) : FnOk P w K mg base CX0 1 A.a_law_new A.d_law_new ["names", "word"] (spNew K) := by
  refine T.F_law_new.ok sc_law_new (fun vs H Q E h => ?_) (fun cdv A' outer s H vs Q E hr h => ?_)
  · obtain ⟨l, ns, z, rfl, _⟩ := h
    rfl
  · obtain ⟨l, ns, z, rfl, hS, hl, g, k⟩ := h
    refine ⟨_, (pss_cons (ps_set (i := 2) sc_law_new.nd rfl (Or.inl rfl) pe_str)
      (pss_cons (ps_for PassesOwn.never rfl (pi_range1 (by rfl) T.n_range (pa_cons pe_int pa_nil)) (pg_name (i := 3) sc_law_new.nd rfl (Or.inl rfl))
        (pss_cons (ps_if (pt_cmpR op_notIn_seq (pv 1) (pv 0) (by with_unfolding_all rfl)) (pss_one ps_break) pss_nil)
      (pss_one (ps_set (i := 1) sc_law_new.nd rfl (Or.inl rfl) (pe_op op_add_str (pe_slice sl_str (pv 1) po_none (po_some (pe_un un_neg pe_int))) (pe_ix ix_str (pv 2) (pe_op op_mod (pe_callTy call_int1 (by rfl) T.n_int (by decide +kernel) (pa_cons (pe_op op_add (pe_m1 PySem.F.slot_str_index PySem.F.type_str_index mt_sindex (pv 2) (pe_ix ix_str (pv 1) (pe_un un_neg pe_int) (fun _ _ => rfl))) pe_int) pa_nil)) pe_int) (fun _ _ => rfl)))))))
      (pss_one (ps_ret (pv 1))))), ?_⟩
    obtain ⟨pre, c, hz⟩ : ∃ pre c, z.cps.toList = pre ++ [c] := by
      have h1 : 0 < z.cps.toList.length := by have := g.pos; have e : z.cps.toList.length = z.length := Array.length_toList; omega
      exact ⟨_, _, (List.dropLast_concat_getLast (List.length_pos_iff.mp h1)).symm⟩
    have hc : 97 ≤ c ∧ c ≤ 122 := g.let_ c (by rw [hz]; simp)
    have hpre : Letters pre := fun x hx => g.let_ x (by rw [hz]; exact List.mem_append_left _ hx)
    have hpl : pre.length + 1 = z.length := by
      have e : z.cps.toList.length = z.length := Array.length_toList
      rw [hz] at e; simpa using e
    have hg : ∀ t, Good (wat pre c t) := fun t => by
      have := g.pos
      have := g.le
      refine ⟨?_, ?_, ?_⟩
      · rw [wat_len]; omega
      · rw [wat_len]; omega
      · show Letters (pre ++ [97 + (c - 97 + t) % 26])
        exact hpre.app (Letters.one (by omega) (by omega))
    have hz0 : z = wat pre c 0 := by
      apply str_ext
      apply Array.toList_inj.mp
      rw [hz]
      show pre ++ [c] = pre ++ [97 + (c - 97 + 0) % 26]
      have : 97 + (c - 97 + 0) % 26 = c := by omega
      rw [this]
    rw [hz0]
    have hsl : ∀ t, (wat pre c t).length ≤ sizeLine := fun t => Nat.le_trans (hg t).le (by decide)
    refine ⟨26, rfl, by decide, by decide, for_range (n := 26) (fun t σ H2 => H2 = H ∧ ∃ u : Option V, σ = [some (.ref l), some (.str (wat pre c t)), some (.str "abcdefghijklmnopqrstuvwxyz"), u] ∧ ∀ s, s < t → wat pre c s ∈ ns)
      ⟨rfl, none, rfl, fun s hs => absurd hs (Nat.not_lt_zero _)⟩ ?_ ?_⟩
    · rintro t σ H2 ht ⟨rfl, u, rfl, hall⟩
      refine ⟨_, rfl, _, rfl, l, _, rfl, .inl hS, rfl, flat_sv _, _, rfl, ?_⟩
      rw [if_pos (rfl : true = true), inV_str]
      by_cases hin : wat pre c t ∈ ns
      · refine ifF (by rw [decide_eq_true hin]; rfl) ?_
        have m26 : (c - 97 + t) % 26 < 26 := Nat.mod_lt _ (by decide)
        have ei : Builtin.Str.occurrences ("abcdefghijklmnopqrstuvwxyz" : Str) ⟨#[97 + (c - 97 + t) % 26]⟩ 0 (("abcdefghijklmnopqrstuvwxyz" : Str)).length 1 = [(c - 97 + t) % 26] := alpha_ix ⟨_, m26⟩
        have k26 : ((c - 97 + t) % 26 + 1) % 26 < 26 := Nat.mod_lt _ (by decide)
        have ea : atI (("abcdefghijklmnopqrstuvwxyz" : Str)).cps.toList (((((c - 97 + t) % 26 + 1) % 26 : Nat)) : Int) = some (97 + ((c - 97 + t) % 26 + 1) % 26) := alpha_at ⟨_, k26⟩
        rw [show (((((c - 97 + t) % 26 + 1) % 26 : Nat)) : Int) = ((((c - 97 + t) % 26 : Nat)) + 1 : Int) % 26 by omega] at ea
        refine ⟨_, rfl, _, rfl, _, rfl, _, rfl, hsl t, _, rfl, _, rfl, ⟨_, rfl⟩, _, rfl, _, rfl, _, _, _, rfl, rfl, hsl t, wat_last, _, _, _, _, rfl, rfl, ei, _, _, rfl, rfl, .inl ⟨_, rfl, _, _, rfl, rfl, by show (0 : Int) < 26; decide, _, _, _, rfl, rfl, alpha_len, ea, _, _, rfl, rfl, ?_, rfl, some (.int (0 + (t : Int))), ?_, ?_⟩⟩
        · refine Nat.le_trans (Nat.add_le_add_right (cutS_length _ _ _) 1) ?_
          have := (hg t).le
          exact Nat.le_trans (Nat.succ_le_succ this) (by decide)
        · rw [wat_next]; rfl
        · intro s hs
          rcases Nat.lt_succ_iff_lt_or_eq.mp hs with q | q
          · exact hall s q
          · rw [q]; exact hin
      · refine ifT (by rw [decide_eq_false hin]; rfl) ?_
        exact ⟨_, rfl, k _ (hg t) hin⟩
    · rintro σ H2 ⟨rfl, u, rfl, hall⟩
      exfalso
      have := wat_many (fun t ht => hall t ht)
      omega
end
end My
set_option maxRecDepth 100000
set_option maxHeartbeats 4000000
namespace My
open PySem L2
open My7 (Fm Sk La Pr showF showL joinSp sgn csgn opener closer pushes letter)
theorem lev_len (s : Sk) : (lev s).length = s.open_.length + 1 := by
  unfold lev; rw [List.length_append, List.length_map]; rfl
theorem at_neg2 {xs : List V} {x y : V} : atI (xs ++ [x, y]) (-2) = some x := by
  unfold atI ixN
  have h1 : ((xs ++ [x, y]).length : Int) = (xs.length : Int) + 2 := by rw [List.length_append]; rfl
  rw [if_neg (by decide), if_pos (by omega)]
  have e : (-2 + ((xs ++ [x, y]).length : Int)).toNat = xs.length := by omega
  rw [e]
  show (xs ++ [x, y])[xs.length]? = _
  simp
theorem rev_last2 (q q2 : Addr) (ut : List Addr) : (q :: q2 :: ut).reverse.map V.ref = ut.reverse.map V.ref ++ [V.ref q2, V.ref q] := by
  rw [rev_last, rev_last, List.append_assoc]; rfl
theorem cut_neg2 {xs : List V} {x y : V} : cutV (xs ++ [x, y]) none (some (-2)) = xs := by
  unfold cutV
  have h1 : (xs ++ [x, y]).length = xs.length + 2 := by rw [List.length_append]; rfl
  have e : HT.sIx (xs ++ [x, y]).length (xs ++ [x, y]).length (some (-2)) = xs.length := by
    rw [h1]
    unfold HT.sIx
    simp
    omega
  rw [e, HT.sIx_none, List.drop_zero, Nat.sub_zero, List.take_left]
theorem int1_bool (b : Bool) : True := trivial
/-- levels at dl -/
structure Ls (H : Hp) (dl : Addr) (us : List Addr) (s : Sk) : Prop where
  pcs : H dl = some (.lst (us.reverse.map V.ref))
  sk : SkAt H us s
  ndl : dl ∉ us
theorem Ls.same {H H' : Hp} {dl : Addr} {us : List Addr} {s : Sk} (h : Ls H dl us s) (e : Same H H') : Ls H' dl us s := ⟨e _ _ h.pcs, h.sk.same e, h.ndl⟩
/-- the reading of one sign by the open pieces -/
def putS (s : Sk) (ended : Bool) (c : Nat) : Option Sk :=
  if opener c = true ∧ ended = false then some (s.push c)
  else if closer c = true ∧ ended = true then s.close c
  else if c = 32 ∧ ended = true ∧ s.open_ ≠ [] then some s else none
section
variable {P : Program} {w : World} {K : PySem.W.Frag} {mg : Str → Option Value} {base : Heap} {A : Ad}
def Post (H : Hp) (Q : VK) (us : List Addr) (n : Nat) (o : Option Sk) : Prop :=
  (o = none → ∀ H', Same H H' → Q .non H') ∧ ∀ t, o = some t → ∀ H' dl us', Same H H' → Ls H' dl us' t → (∀ q ∈ us', q ∈ us ∨ H q = none) → us'.length ≤ n → Q (.ref dl) H'
def spClosed : Sp := fun vs H Q _ => ∃ dl c us s, vs = [.ref dl, .str (Tx [c])] ∧ Ls H dl us s ∧ closer c = true ∧ cnt s + us.length ≤ 900000 ∧ Post H Q us us.length (s.close c)
theorem ok_closed (T : Txt P w K mg A) : FnOk P w K mg base CX0 1 A.a_law_closed A.d_law_closed ["levels", "sign"] spClosed := by
  refine T.F_law_closed.ok sc_law_closed (fun vs H Q E h => ?_) (fun cdv A' outer s0 H vs Q E hr h => ?_)
  · obtain ⟨dl, c, us, s, rfl, _⟩ := h
    rfl
  · obtain ⟨dl, c, us, s, rfl, L, hc, hb, k0, k⟩ := h
    refine ⟨_, (pss_cons (ps_set (i := 2) sc_law_closed.nd rfl (Or.inl rfl) (pe_callTy call_tuple_of (by rfl) T.n_tuple (by decide +kernel) (pa_cons (pe_ix ix_list (pv 0) (pe_un un_neg pe_int) (fun _ _ => rfl)) pa_nil)))
      (pss_cons (ps_set (i := 3) sc_law_closed.nd rfl (Or.inl rfl) (pe_callTy call_int1 (by rfl) T.n_int (by decide +kernel) (pa_cons (pe_cmpR op_eq (pv 1) pe_str (nomark _)) pa_nil)))
      (pss_cons (ps_if (PW.pt (pw_or (pt_cmpR op_eq (pe_callB call_len_seq (by rfl) T.n_len (by decide +kernel) (pa_cons (pv 0) pa_nil)) pe_int (nomark _)) (pw_or (pt_cmpR op_ne (pe_ix ix_tup (pv 2) pe_int (fun _ _ => rfl)) (pe_ix ix_list (pe_lst (pa_cons pe_str (pa_cons pe_str pa_nil))) (pv 3) (fun _ _ => rfl)) (nomark _)) (pw_or1 (pt_cmpR op_lt (pe_callB call_len_seq (by rfl) T.n_len (by decide +kernel) (pa_cons (pv 2) pa_nil)) (pe_op op_add pe_int (pv 3)) (nomark _)))))) (pss_one (ps_ret pe_non)) pss_nil)
      (pss_one (ps_ret (pe_op op_cat (pe_slice sl_list (pv 0) po_none (po_some (pe_un un_neg pe_int))) (pe_lst (pa_cons (pe_op op_cat (pe_ix ix_list (pv 0) (pe_un un_neg pe_int) (fun _ _ => rfl)) (pe_lst (pa_cons (pv 2) pa_nil))) pa_nil)))))))), ?_⟩
    obtain ⟨q, ut, o, ps, ls, vs, eu, el, hq, hf, hlv, hnq, nd⟩ := L.sk.top
    subst eu
    have hl := L.pcs
    have at1 : atI ((q :: ut).reverse.map V.ref) (-1) = some (.ref q) := by rw [rev_last]; exact at_neg1
    refine ⟨_, rfl, _, rfl, dl, _, _, _, rfl, rfl, SqL.of hl, at1, q, _, rfl, .inl ⟨SqL.of hq, fun b hb => ?_⟩⟩
    have s1 := same_new (o := .tup (hdK o ++ vs)) hb
    have hb1 := upd_same (H := H) (a := b) (o := .tup (hdK o ++ vs))
    generalize upd H b _ = H1 at s1 hb1 ⊢
    have ebr : decide (V.str (Tx [c]) = V.str ("]" : Str)) = (c == 93) := by
      rcases Bool.or_eq_true_iff.mp hc with e | e
      · have e : c = 41 := eq_of_beq e
        subst e; decide
      · have e : c = 93 := eq_of_beq e
        subst e; decide
    refine ⟨_, rfl, rfl, .inr ⟨_, rfl, ?_⟩⟩
    rw [ebr]
    have hu := L.sk.at_.len
    rw [lev_len] at hu
    refine ⟨_, rfl, dl, _, rfl, .inl (SqL.of (s1 _ _ hl)), rfl, _, rfl, ?_⟩
    obtain ⟨base', op⟩ := s
    cases op with
    | nil =>
      refine itY (by rw [List.length_map, List.length_reverse, hu]; rfl) ?_
      dsimp only
      exact ifT rfl (k0 rfl _ s1)
    | cons a r =>
      obtain ⟨k1, ps1⟩ := a
      have el2 : (some k1, ps1) :: lev ⟨base', r⟩ = (o, ps) :: ls := el
      cases el2
      rw [close_eq] at k0 k
      refine itN (fun e => by have := V.int.inj e; rw [List.length_map, List.length_reverse, hu, List.length_cons] at this; omega) ?_
      have sk2 : SkAt H ut ⟨base', r⟩ := ⟨nd, hlv⟩
      obtain ⟨q2, ut2, o2, ps2, ls2, vs2, eu2, el3, hq2, hf3, hlv3, hnq2, nd2⟩ := sk2.top
      subst eu2
      have ati : atI [V.str ("loose" : Str), V.str "firm"] (if (c == 93) then 1 else 0) = some (V.str (kd (c == 93))) := by
        cases c == 93 <;> decide
      refine ⟨_, rfl, b, _, 0, _, rfl, rfl, SqT.of hb1, at_zero, by show 2 ≤ sizeLine; decide, fun l2 hl2 => ⟨_, rfl, l2, _, _, _, rfl, rfl, SqL.of upd_same, ati, rfl, _, rfl, ?_⟩⟩
      have s2 := s1.trans (same_new (o := .lst [V.str ("loose" : Str), V.str "firm"]) hl2)
      have hb2 := same_new (o := .lst [V.str ("loose" : Str), V.str "firm"]) hl2 _ _ hb1
      generalize upd H1 l2 _ = H2 at s2 hb2 ⊢
      by_cases hk : k1 = (c == 93)
      · refine itNe (by rw [hk]) ?_
        refine ⟨_, rfl, b, _, rfl, .inr (SqT.of hb2), _, rfl, _, _, rfl, rfl, _, _, rfl, rfl, _, rfl, ?_⟩
        have hlen : (((hdK (some k1) ++ vs).length : Nat) : Int) = (ps.length : Int) + 1 := by
          show ((V.str (kd k1) :: vs).length : Int) = _
          rw [List.length_cons, hf.len]; rfl
        by_cases hn : (if k1 then 3 else 2) ≤ ps.length
        · rw [if_pos ⟨hk, hn⟩] at k
          refine itN (by rw [hlen, ← hk]; cases k1 <;> simp at hn ⊢ <;> omega) ?_
          have hl2 := s2 _ _ hl
          rw [rev_last2] at hl2
          have hps : ps ≠ [] := fun e => by rw [e] at hn; have := two_le hn; simp at this
          refine ⟨_, rfl, _, rfl, _, rfl, dl, _, rfl, SqL.of hl2, fun a1 ha1 => ?_⟩
          rw [cut_neg2]
          have s3 := same_new (o := .lst (ut2.reverse.map V.ref)) ha1
          have ha3 := upd_same (H := H2) (a := a1) (o := .lst (ut2.reverse.map V.ref))
          generalize upd H2 a1 _ = H3 at s3 ha3 ⊢
          have s03 := s2.trans s3
          refine ⟨_, rfl, _, rfl, dl, _, _, _, rfl, rfl, SqL.of (s3 _ _ hl2), at_neg2, _, rfl, by show 1 ≤ sizeLine; decide, fun l3 hl3 => ?_⟩
          have s4 := s03.trans (same_new (o := .lst [V.ref b]) hl3)
          have ha4 := same_new (o := .lst [V.ref b]) hl3 _ _ ha3
          have hb4 := same_new (o := .lst [V.ref b]) hl3 _ _ (s3 _ _ hb2)
          have hl4 := upd_same (H := H3) (a := l3) (o := .lst [V.ref b])
          generalize upd H3 l3 _ = H4 at s4 ha4 hb4 hl4 ⊢
          have big : 1000000 ≤ sizeLine := by decide
          have hu2 : (q :: q2 :: ut2).length = ut2.length + 2 := rfl
          have h1 := cnt_lev el3
          have h2 : cnt (⟨base', r⟩ : Sk) ≤ cnt (⟨base', (k1, ps) :: r⟩ : Sk) := by
            show base'.length + (r.map fun x => x.2.length).sum ≤ base'.length + (ps.length + (r.map fun x => x.2.length).sum)
            omega
          have h3 : (hdK o2).length ≤ 1 := by cases o2 <;> exact (by simp [hdK])
          refine ⟨q2, l3, _, _, rfl, rfl, s4 _ _ hq2, hl4, by rw [List.length_append, hf3.len, show [V.ref b].length = 1 from rfl]; omega, fun q3 hq3 => ⟨by show 1 ≤ sizeLine; decide, fun l4 hl4 => ?_⟩⟩
          have s5 := same_new (o := .lst ((hdK o2 ++ vs2) ++ [V.ref b])) hq3
          have s6 := same_new (o := .lst [V.ref q3]) hl4
          have hq6 := s6 _ _ (upd_same (H := H4) (a := q3) (o := .lst ((hdK o2 ++ vs2) ++ [V.ref b])))
          have hl6 := upd_same (H := upd H4 q3 (.lst ((hdK o2 ++ vs2) ++ [V.ref b]))) (a := l4) (o := .lst [V.ref q3])
          have hq0 : H q3 = none := by
            cases e : H q3 with
            | none => rfl
            | some o => rw [s4 _ _ e] at hq3; cases hq3
          have s56 := s5.trans s6
          generalize upd (upd H4 q3 _) l4 _ = H6 at s6 hq6 hl6 s56 ⊢
          refine ⟨a1, l4, _, _, rfl, rfl, s56 _ _ ha4, hl6, by rw [List.length_map, List.length_reverse, show [V.ref q3].length = 1 from rfl]; omega, fun d hd => ?_⟩
          have s7 := same_new (o := .lst (ut2.reverse.map V.ref ++ [V.ref q3])) hd
          have s07 := (s4.trans s56).trans s7
          refine k _ rfl _ d (q3 :: ut2) s07 ⟨by rw [upd_same, rev_last], ⟨List.nodup_cons.mpr ⟨fun e => ?_, nd2⟩, ?_⟩, ?_⟩ ?_ ?_
          · obtain ⟨xs, z⟩ := hlv3.lst e
            rw [hq0] at z; cases z
          · rw [lev_put el3]
            exact ⟨⟨vs2 ++ [.ref b], by rw [s7 _ _ hq6, List.append_assoc], (hf3.keep (Kt.of s07)).app (.one (.node (s7 _ _ (s56 _ _ hb4)) hps (hf.keep (Kt.of s07))))⟩, hlv3.same s07⟩
          · intro e
            rcases List.mem_cons.mp e with e | e
            · rw [e] at hd; rw [hq6] at hd; cases hd
            · obtain ⟨xs, z⟩ := hlv3.lst e
              have := s56 _ _ (s4 _ _ z)
              rw [hd] at this; cases this
          · intro x hx
            rcases List.mem_cons.mp hx with rfl | hx
            · exact .inr hq0
            · exact .inl (List.mem_cons_of_mem _ (List.mem_cons_of_mem _ hx))
          · show ut2.length + 1 ≤ ut2.length + 2
            omega
        · rw [if_neg (fun h => hn h.2)] at k0
          refine itY (by rw [hlen, ← hk]; cases k1 <;> simp at hn ⊢ <;> omega) ?_
          exact k0 rfl _ s2
      · rw [if_neg (fun h => hk h.1)] at k0
        refine itNeN (fun e => hk ?_) ?_
        · have e := V.str.inj e
          revert e
          cases k1 <;> cases (c == 93) <;> decide
        dsimp only
        exact ifT rfl (k0 rfl _ s2)
def spPutS : Sp := fun vs H Q _ => ∃ dl b c us s, vs = [.ref dl, .bl b, .str (Tx [c])] ∧ Ls H dl us s ∧ cnt s + us.length ≤ 900000 ∧ Post H Q us (us.length + 1) (putS s b c)
theorem ok_putS (T : Txt P w K mg A) : FnOk P w K mg base CX0 2 A.a_law_put A.d_law_put ["levels", "ended", "sign"] spPutS := by
  have G_law_closed := ok_closed (P := P) (w := w) (base := base) T
  refine T.F_law_put.ok sc_law_put (fun vs H Q E h => ?_) (fun cdv A' outer s0 H vs Q E hr h => ?_)
  · obtain ⟨dl, b, c, us, s, rfl, _⟩ := h
    rfl
  · obtain ⟨dl, b, c, us, s, rfl, L, hb, k0, k⟩ := h
    refine ⟨_, (pss_cons (ps_if (PW.pt (pw_and (pt_cmpR op_eq (pv 2) pe_str (nomark _)) (pw_and1 (pt_not (pt_val (pv 1)))))) (pss_one (ps_ret (pe_op op_cat (pv 0) (pe_lst (pa_cons (pe_lst (pa_cons pe_str pa_nil)) pa_nil))))) pss_nil)
      (pss_cons (ps_if (PW.pt (pw_and (pt_cmpR op_eq (pv 2) pe_str (nomark _)) (pw_and1 (pt_not (pt_val (pv 1)))))) (pss_one (ps_ret (pe_op op_cat (pv 0) (pe_lst (pa_cons (pe_lst (pa_cons pe_str pa_nil)) pa_nil))))) pss_nil)
      (pss_cons (ps_if (PW.pt (pw_and (PW.pt (pw_or (pt_cmpR op_eq (pv 2) pe_str (nomark _)) (pw_or1 (pt_cmpR op_eq (pv 2) pe_str (nomark _))))) (pw_and1 (pt_val (pv 1))))) (pss_one (ps_ret (pe_call G_law_closed (hr.mono (by decide)) rfl T.mg_law_closed T.F_law_closed.kp T.b_law_closed .nil pass0 (pa_cons (pv 0) (pa_cons (pv 2) pa_nil))))) pss_nil)
      (pss_cons (ps_if (PW.pt (pw_and (pt_cmpR op_eq (pv 2) pe_str (nomark _)) (pw_and (pt_val (pv 1)) (pw_and1 (pt_cmpR op_gt (pe_callB call_len_seq (by rfl) T.n_len (by decide +kernel) (pa_cons (pv 0) pa_nil)) pe_int (nomark _)))))) (pss_one (ps_ret (pv 0))) pss_nil)
      (pss_one (ps_ret pe_non)))))), ?_⟩
    have eqc : ∀ (d : Nat) (z : Str), z = Tx [d] → decide (V.str (Tx [c]) = V.str z) = (c == d) := fun d z hz => by
      rw [hz, Bool.eq_iff_iff, decide_eq_true_iff, beq_iff_eq]
      exact ⟨fun e => by have := Tx_inj (V.str.inj e); exact (List.cons.inj this).1, fun e => by rw [e]⟩
    have big : 1000000 ≤ sizeLine := by decide
    have hu := L.sk.at_.len
    rw [lev_len] at hu
    have e40 := eqc 40 "(" (by decide)
    have e91 := eqc 91 "[" (by decide)
    have e41 := eqc 41 ")" (by decide)
    have e93 := eqc 93 "]" (by decide)
    have e32 := eqc 32 " " (by decide)
    have pushed : ∀ (z : Str), opener c = true → b = false → z = kd (c == 91) → ∀ l H1, H l = none → H1 = upd H l (.lst [.str z]) → ∀ l2, H1 l2 = none → ∀ d, upd H1 l2 (.lst [.ref l]) d = none → Q (.ref d) (upd (upd H1 l2 (.lst [.ref l])) d (.lst (us.reverse.map V.ref ++ [V.ref l]))) := fun z ho hb0 hz l H1 hl e1 l2 hl2 d hd => by
      subst e1 hz
      have s1 := same_new (o := .lst [V.str (kd (c == 91))]) hl
      have hl1 := upd_same (H := H) (a := l) (o := .lst [V.str (kd (c == 91))])
      generalize upd H l _ = H1 at s1 hl1 hl2 hd ⊢
      have s2 := same_new (o := .lst [V.ref l]) hl2
      generalize upd H1 l2 _ = H2 at s2 hd ⊢
      have s3 := same_new (o := .lst (us.reverse.map V.ref ++ [V.ref l])) hd
      have s13 := s2.trans s3
      have hlu : l ∉ us := fun e => by
        obtain ⟨xs, z⟩ := L.sk.at_.lst e
        rw [hl] at z; cases z
      refine k (s.push c) (by unfold putS; rw [if_pos ⟨ho, hb0⟩]) _ d (l :: us) (s1.trans s13) ⟨by rw [upd_same, rev_last], ⟨List.nodup_cons.mpr ⟨hlu, L.sk.nd⟩, ?_⟩, ?_⟩ ?_ (Nat.le_refl _)
      · rw [lev_push]
        exact ⟨⟨[], by rw [s13 _ _ hl1]; rfl, .nil⟩, L.sk.at_.same (s1.trans s13)⟩
      · intro e
        rcases List.mem_cons.mp e with e | e
        · rw [e, s2 _ _ hl1] at hd; cases hd
        · obtain ⟨xs, z⟩ := L.sk.at_.lst e
          rw [s2 _ _ (s1 _ _ z)] at hd; cases hd
      · intro q hq
        rcases List.mem_cons.mp hq with rfl | hq
        · exact .inr hl
        · exact .inl hq
    refine ⟨_, rfl, rfl, _, rfl, ?_⟩
    rw [e40]
    cases b with
    | false =>
      cases h40 : c == 40 with
      | true =>
        have ec : c = 40 := eq_of_beq h40
        subst ec
        refine ifT rfl ⟨_, rfl, _, rfl, ifT rfl ⟨_, rfl, by show 1 ≤ sizeLine; decide, fun l hl => ⟨by show 1 ≤ sizeLine; decide, fun l2 hl2 => ?_⟩⟩⟩
        exact ⟨dl, l2, _, _, rfl, rfl, same_new hl2 _ _ (same_new hl _ _ L.pcs), upd_same, by rw [List.length_map, List.length_reverse, show [V.ref l].length = 1 from rfl]; omega, fun d hd => pushed "loose" rfl rfl rfl l _ hl rfl l2 hl2 d hd⟩
      | false =>
      refine ifF rfl (iteF ⟨_, rfl, rfl, _, rfl, ?_⟩)
      rw [e91]
      cases h91 : c == 91 with
      | true =>
        have ec : c = 91 := eq_of_beq h91
        subst ec
        refine ifT rfl ⟨_, rfl, _, rfl, ifT rfl ⟨_, rfl, by show 1 ≤ sizeLine; decide, fun l hl => ⟨by show 1 ≤ sizeLine; decide, fun l2 hl2 => ?_⟩⟩⟩
        exact ⟨dl, l2, _, _, rfl, rfl, same_new hl2 _ _ (same_new hl _ _ L.pcs), upd_same, by rw [List.length_map, List.length_reverse, show [V.ref l].length = 1 from rfl]; omega, fun d hd => pushed "firm" rfl rfl rfl l _ hl rfl l2 hl2 d hd⟩
      | false =>
      have none_ : putS s false c = none := by
        unfold putS My7.opener
        rw [h40, h91, if_neg (fun h => nomatch h.1), if_neg (fun h => nomatch h.2), if_neg (fun h => nomatch h.2.1)]
      refine ifF rfl (iteF ⟨_, rfl, rfl, _, rfl, ?_⟩)
      rw [e41]
      cases h41 : c == 41
      case true =>
        refine ifT rfl ?_
        dsimp only
        refine ifT rfl ⟨_, rfl, _, rfl, iteF ⟨_, rfl, rfl, _, rfl, ?_⟩⟩
        rw [e32]
        cases h32 : c == 32
        · exact ifF rfl (iteF (k0 none_ H (Same.refl _)))
        · refine ifT rfl ⟨_, rfl, _, rfl, iteF ?_⟩
          exact iteF (k0 none_ H (Same.refl _))
      case false =>
        refine ifF rfl ⟨_, rfl, rfl, _, rfl, ?_⟩
        rw [e93]
        cases h93 : c == 93
        case true =>
          refine ifT rfl ⟨_, rfl, _, rfl, iteF ⟨_, rfl, rfl, _, rfl, ?_⟩⟩
          rw [e32]
          cases h32 : c == 32
          · exact ifF rfl (iteF (k0 none_ H (Same.refl _)))
          · refine ifT rfl ⟨_, rfl, _, rfl, iteF ?_⟩
            exact iteF (k0 none_ H (Same.refl _))
        case false =>
          refine ifF rfl (iteF ⟨_, rfl, rfl, _, rfl, ?_⟩)
          rw [e32]
          cases h32 : c == 32
          · exact ifF rfl (iteF (k0 none_ H (Same.refl _)))
          · refine ifT rfl ⟨_, rfl, _, rfl, iteF ?_⟩
            exact iteF (k0 none_ H (Same.refl _))
    | true =>
      have n1 : ¬ (opener c = true ∧ true = false) := fun h => nomatch h.2
      have closes : closer c = true → ∀ E', spClosed [.ref dl, .str (Tx [c])] H Q E' := fun hc E' => by
        have e : putS s true c = s.close c := by unfold putS; rw [if_neg n1, if_pos ⟨hc, rfl⟩]
        rw [e] at k0 k
        exact ⟨dl, c, us, s, rfl, L, hc, hb, k0, fun t ht H' d us' s' l' h1 h2 => k t ht H' d us' s' l' h1 (by omega)⟩
      cases h40 : c == 40
      case' false => refine ifF rfl (iteF ⟨_, rfl, rfl, _, rfl, ?_⟩)
      case' true => refine ifT rfl ⟨_, rfl, _, rfl, ifF rfl ⟨_, rfl, rfl, _, rfl, ?_⟩⟩
      all_goals
        rw [e91]
        cases h91 : c == 91
        case' false => refine ifF rfl (iteF ⟨_, rfl, rfl, _, rfl, ?_⟩)
        case' true => refine ifT rfl ⟨_, rfl, _, rfl, ifF rfl ⟨_, rfl, rfl, _, rfl, ?_⟩⟩
        all_goals
          rw [e41]
          cases h41 : c == 41
          case true =>
            refine ifT rfl ?_
            dsimp only
            exact ifT rfl ⟨_, rfl, _, rfl, iteT ⟨_, rfl, _, rfl, closes (by unfold My7.closer; rw [h41]; rfl) E0⟩⟩
          case false =>
            refine ifF rfl ⟨_, rfl, rfl, _, rfl, ?_⟩
            rw [e93]
            cases h93 : c == 93
            case true => exact ifT rfl ⟨_, rfl, _, rfl, iteT ⟨_, rfl, _, rfl, closes (by unfold My7.closer; rw [h93, h41]; rfl) E0⟩⟩
            case false =>
              have n2 : ¬ (closer c = true ∧ true = true) := fun h => by
                have := h.1
                unfold My7.closer at this
                rw [h41, h93] at this; cases this
              refine ifF rfl (iteF ⟨_, rfl, rfl, _, rfl, ?_⟩)
              rw [e32]
              cases h32 : c == 32
              case false =>
                refine ifF rfl (iteF (k0 ?_ H (Same.refl _)))
                unfold putS
                rw [if_neg n1, if_neg n2, if_neg (fun h => by have := h.1; rw [this] at h32; cases h32)]
              case true =>
                refine ifT rfl ⟨_, rfl, _, rfl, iteT ⟨_, rfl, dl, _, rfl, .inl (SqL.of L.pcs), _, _, rfl, rfl, _, rfl, ?_⟩⟩
                by_cases ho : s.open_ = []
                · refine itN (by rw [List.length_map, List.length_reverse, hu, ho]; decide) (k0 ?_ H (Same.refl _))
                  unfold putS
                  rw [if_neg n1, if_neg n2, if_neg (fun h => h.2.2 ho)]
                · refine itY (by
                    rw [List.length_map, List.length_reverse, hu]
                    have : 0 < s.open_.length := List.length_pos_iff.mpr ho
                    omega) ⟨_, rfl, k s ?_ H dl us (Same.refl _) L (fun q h => .inl h) (Nat.le_succ _)⟩
                  unfold putS
                  rw [if_neg n1, if_neg n2, if_pos ⟨eq_of_beq h32, rfl, ho⟩]
end
end My
set_option maxRecDepth 100000
set_option maxHeartbeats 4000000
namespace My
open PySem L2
open C8 (pss_cut)
open My7 (Fm Sk La Pr showF showL joinSp sgn csgn opener closer pushes letter)
theorem app_eq_rev {xs : List V} {x : V} {us : List Addr} (hu : us ≠ []) (h : xs ++ [x] = us.reverse.map V.ref) : ∃ a, x = .ref a := by
  obtain ⟨q, ut, rfl⟩ : ∃ q ut, us = q :: ut := by
    cases us with
    | nil => exact absurd rfl hu
    | cons q ut => exact ⟨q, ut, rfl⟩
  rw [rev_last] at h
  have := List.append_inj_right' h rfl
  exact ⟨q, (List.cons.inj this).1⟩
def nmv (st : La) : List V := (st.names.map fun z => V.str (Tx z)) ++ [V.str (Tx st.cur)]
/-- the law's reader in the heap -/
structure Ld (H0 H : Hp) (dl dn : Addr) (us : List Addr) (st : La) : Prop where
  ls : Ls H dl us st.sk
  nms : H dn = some (.lst (nmv st))
  ndu : dn ∉ us
  same : Same H0 H
  nn : H0 dn = none
  nu : ∀ q ∈ us, H0 q = none
  ne : ∀ z ∈ st.names, z ≠ []
theorem Ls.ne {H : Hp} {dl : Addr} {us : List Addr} {s : Sk} (h : Ls H dl us s) : us ≠ [] := fun e => by
  have := h.sk.at_.len
  rw [lev_len, e] at this
  cases this
theorem Ld.ndl {H0 H : Hp} {dl dn : Addr} {us : List Addr} {st : La} (h : Ld H0 H dl dn us st) : dl ≠ dn := fun e => by
  have h1 := h.ls.pcs
  rw [e, h.nms] at h1
  have h2 : nmv st = us.reverse.map V.ref := HO.lst.inj (Option.some.inj h1)
  obtain ⟨a, ha⟩ := app_eq_rev h.ls.ne h2
  cases ha
theorem Ls.upd {H : Hp} {dl q : Addr} {o : HO} {us : List Addr} {s : Sk} (h : Ls H dl us s) (h1 : dl ≠ q) (h2 : q ∉ us) (h3 : ∀ xs, H q ≠ some (.tup xs)) : Ls (upd H q o) dl us s :=
  ⟨by rw [upd_ne h1]; exact h.pcs, h.sk.upd h2 h3, h.ndl⟩
theorem Ld.letter {H0 H : Hp} {dl dn : Addr} {us : List Addr} {st : La} (h : Ld H0 H dl dn us st) (c : Nat) {xs : List V} (hx : xs = nmv { st with cur := st.cur ++ [c] }) : Ld H0 (upd H dn (.lst xs)) dl dn us { st with cur := st.cur ++ [c] } := by
  subst hx
  exact ⟨h.ls.upd h.ndl h.ndu (fun xs e => by rw [h.nms] at e; cases e), upd_same, h.ndu, same_upd h.same h.nn, h.nn, h.nu, h.ne⟩
theorem flush_ne {st : La} (h : st.cur ≠ []) : st.flush = ⟨st.sk.put (.name st.cur), [], st.names ++ [st.cur], true⟩ := by
  unfold My7.La.flush; rw [if_neg h]
theorem Ld.put {H0 H H' : Hp} {dl dn dl' : Addr} {us us' : List Addr} {st : La} {t : Sk} (h : Ld H0 H dl dn us st) (s : Same H H') (l : Ls H' dl' us' t) (hq : ∀ q ∈ us', q ∈ us ∨ H q = none) (e : Bool) : Ld H0 H' dl' dn us' { st with sk := t, ended := e } := by
  refine ⟨l, s _ _ h.nms, fun hm => ?_, h.same.trans s, h.nn, fun q hm => ?_, h.ne⟩
  · rcases hq dn hm with z | z
    · exact h.ndu z
    · rw [h.nms] at z; cases z
  · rcases hq q hm with z | z
    · exact h.nu q z
    · cases e : H0 q with
      | none => rfl
      | some o => rw [h.same _ _ e] at z; cases z
/-- what the innermost piece gets -/
theorem Ld.flush {H0 H : Hp} {dl dn q : Addr} {ut : List Addr} {st : La} {o : Option Bool} {ps : List Fm} {ls : List (Option Bool × List Fm)} {vs : List V} (h : Ld H0 H dl dn (q :: ut) st)
    (el : lev st.sk = (o, ps) :: ls) (hq : H q = some (.lst (hdK o ++ vs))) (hf : FoL H vs ps) (hlv : Lv H ut ls) (hn : q ∉ ut) (nd : ut.Nodup) {xs : List V} (hx : xs = (hdK o ++ vs) ++ [V.str (Tx st.cur)]) :
    Ls (upd H q (.lst xs)) dl (q :: ut) (st.sk.put (.name st.cur)) ∧ upd H q (.lst xs) dn = some (.lst (nmv st)) ∧ Same H0 (upd H q (.lst xs)) := by
  subst hx
  have qd : dl ≠ q := fun e => h.ls.ndl (by rw [e]; exact List.mem_cons_self)
  have qn : dn ≠ q := fun e => h.ndu (by rw [e]; exact List.mem_cons_self)
  exact ⟨⟨by rw [upd_ne qd]; exact h.ls.pcs, SkAt.put el hq hf hlv hn nd (.name _), h.ls.ndl⟩, by rw [upd_ne qn]; exact h.nms, same_upd h.same (h.nu q List.mem_cons_self)⟩
def la0 : La := ⟨⟨[], []⟩, [], [], false⟩
def readL (l : List Nat) : Option Fm := if l = [40, 41] then some (.node false []) else (la0.run l).bind La.fin
theorem letter_in (c : Nat) : decide (c ∈ (("abcdefghijklmnopqrstuvwxyz" : Str)).cps.toList) = My7.letter c := by
  unfold My7.letter
  rw [Bool.eq_iff_iff, decide_eq_true_iff, decide_eq_true_iff]
  have e : (("abcdefghijklmnopqrstuvwxyz" : Str)).cps.toList = (List.range 26).map (97 + ·) := by decide +kernel
  rw [e, List.mem_map]
  constructor
  · rintro ⟨a, ha, rfl⟩
    have := List.mem_range.mp ha
    omega
  · rintro ⟨h1, h2⟩
    exact ⟨c - 97, List.mem_range.mpr (by omega), by omega⟩
theorem put_eq (st : La) (c : Nat) : st.put c = (putS st.sk st.ended c).map fun k => { st with sk := k, ended := closer c } := by
  unfold My7.La.put putS
  by_cases h1 : opener c = true ∧ st.ended = false
  · rw [if_pos h1, if_pos h1]
    have : closer c = false := by
      have := h1.1
      unfold My7.opener at this; unfold My7.closer
      simp at this ⊢; omega
    rw [this]; rfl
  · rw [if_neg h1, if_neg h1]
    by_cases h2 : closer c = true ∧ st.ended = true
    · rw [if_pos h2, if_pos h2, h2.1]
    · rw [if_neg h2, if_neg h2]
      by_cases h3 : c = 32 ∧ st.ended = true ∧ st.sk.open_ ≠ []
      · rw [if_pos h3, if_pos h3, h3.1]; rfl
      · rw [if_neg h3, if_neg h3]; rfl
theorem cnt_flush (st : La) : cnt st.flush.sk ≤ cnt st.sk + 1 := by
  by_cases h : st.cur = []
  · rw [My7.flush_nil h]; exact Nat.le_succ _
  · rw [flush_ne h]
    show cnt (st.sk.put _) ≤ _
    rw [cnt_put]; exact Nat.le_refl _
theorem putS_cnt {s t : Sk} {b : Bool} {c : Nat} (h : putS s b c = some t) : cnt t ≤ cnt s := by
  unfold putS at h
  by_cases h1 : opener c = true ∧ b = false
  · rw [if_pos h1] at h; cases h; rw [cnt_push]; exact Nat.le_refl _
  · rw [if_neg h1] at h
    by_cases h2 : closer c = true ∧ b = true
    · rw [if_pos h2] at h; exact cnt_close h
    · rw [if_neg h2] at h
      by_cases h3 : c = 32 ∧ b = true ∧ s.open_ ≠ []
      · rw [if_pos h3] at h; cases h; exact Nat.le_refl _
      · rw [if_neg h3] at h; cases h
theorem run_snoc {l : List Nat} {i c : Nat} (h : l[i]? = some c) {st : La} (e : la0.run (l.take i) = some st) : la0.run (l.take (i + 1)) = st.step c := by
  rw [take_succ h, My7.La.run_app, e]
  show (st.step c).bind _ = _
  cases st.step c <;> rfl
theorem run_bad {l : List Nat} {i c : Nat} (h : l[i]? = some c) {st : La} (e : la0.run (l.take i) = some st) (hn : st.step c = none) : la0.run l = none := by
  have e3 : l = l.take i ++ c :: l.drop (i + 1) := by
    conv => lhs; rw [← List.take_append_drop i l]
    rw [List.drop_eq_getElem_cons (List.getElem?_eq_some_iff.mp h).1, (List.getElem?_eq_some_iff.mp h).2]
  rw [e3, My7.La.run_app, e]
  show (st.step c).bind _ = none
  rw [hn]; rfl
theorem ix_neg1 {xs : List V} {x : V} : ixN (xs ++ [x]).length (-1) = some xs.length := by
  unfold ixN
  have h1 : ((xs ++ [x]).length : Int) = (xs.length : Int) + 1 := by rw [List.length_append]; rfl
  rw [if_neg (by decide), if_pos (by omega)]
  have e : (-1 + ((xs ++ [x]).length : Int)).toNat = xs.length := by omega
  rw [e]
theorem set_last {xs : List V} {x y : V} : (xs ++ [x]).set xs.length y = xs ++ [y] := by
  induction xs with
  | nil => rfl
  | cons a r ih => show a :: (r ++ [x]).set r.length y = a :: (r ++ [y]); rw [ih]
def badN (fn : List (List Nat)) (z : List Nat) : Bool := decide (8 < z.length) || decide (1 < fn.count z)
theorem flat_tx (fn : List (List Nat)) : (fn.map fun z => V.str (Tx z)).all flatV = true := by
  rw [List.all_eq_true]; intro x hx; obtain ⟨s, _, rfl⟩ := List.mem_map.mp hx; rfl
theorem count_tx (fn : List (List Nat)) (z : List Nat) : (fn.map fun z => V.str (Tx z)).countP (fun y => eqV y (.str (Tx z))) = fn.count z := by
  rw [List.countP_map, List.count_eq_countP]
  congr 1
  funext y
  show eqV (.str (Tx y)) (.str (Tx z)) = (y == z)
  rw [eqV_str, Bool.eq_iff_iff, decide_eq_true_iff, beq_iff_eq]
  exact ⟨Tx_inj, fun e => by rw [e]⟩
theorem badN_none (fn : List (List Nat)) : fn.filter (badN fn) = [] ↔ (∀ z ∈ fn, z.length ≤ 8) ∧ fn.Nodup := by
  rw [List.filter_eq_nil_iff, List.nodup_iff_count]
  unfold badN
  constructor
  · intro h
    refine ⟨fun z hz => ?_, fun z => ?_⟩
    · have := h z hz
      simp at this; omega
    · by_cases hz : z ∈ fn
      · have := h z hz
        simp at this; omega
      · rw [List.count_eq_zero_of_not_mem hz]; exact Nat.zero_le _
  · rintro ⟨h1, h2⟩ z hz
    have := h1 z hz
    have := h2 z
    simp; omega
section
variable {P : Program} {w : World} {K : PySem.W.Frag} {mg : Str → Option Value} {base : Heap} {A : Ad}
def spDescr : Sp := fun vs H Q _ => ∃ l, vs = [.str (Tx l)] ∧ l.length ≤ 400000 ∧ (readL l = none → ∀ H', Same H H' → Q .non H') ∧ (∀ f, readL l = some f → ∀ v H', Same H H' → Fo H' v f → Q v H')
theorem ok_descr (T : Txt P w K mg A) : FnOk P w K mg base CX0 3 A.a_law_described A.d_law_described ["text"] spDescr := by
  have G_law_put := ok_putS (P := P) (w := w) (base := base) T
  refine T.F_law_described.ok sc_law_described (fun vs H Q E h => ?_) (fun cdv A' outer s0 H vs Q E hr h => ?_)
  · obtain ⟨l, rfl, _⟩ := h
    rfl
  · obtain ⟨l, rfl, hl, k0, k⟩ := h
    refine ⟨_, (pss_cons (ps_if (pt_cmpR op_eq (pv 0) pe_str (nomark _)) (pss_one (ps_ret (pe_tup pa_nil))) pss_nil)
      (pss_cons (ps_set (i := 1) sc_law_described.nd rfl (Or.inl rfl) (pe_lst (pa_cons (pe_lst pa_nil) pa_nil)))
      (pss_cons (ps_set (i := 2) sc_law_described.nd rfl (Or.inr rfl) (pe_lst (pa_cons pe_str pa_nil)))
      (pss_cons (ps_set (i := 3) sc_law_described.nd rfl (Or.inl rfl) pe_bl)
      (pss_cons (ps_for PassesOwn.never rfl (pi_str (pv 0)) (pg_name (i := 4) sc_law_described.nd rfl (Or.inl rfl))
        (pss_cons (ps_set (i := 5) sc_law_described.nd rfl (Or.inl rfl) (pe_cmpR op_in_sign (pv 4) pe_str (by with_unfolding_all rfl)))
      (pss_cut (ps_if (pt_val (pv 5)) (pss_one (ps_asg (pe_op op_add_str (pe_ix ix_list (pv 2) (pe_un un_neg pe_int) (fun _ _ => rfl)) (pv 4)) (pg_sub (pv 2) (pe_un un_neg pe_int) set_list))) (pss_one (ps_if (pt_cmpR op_ne (pe_ix ix_list (pv 2) (pe_un un_neg pe_int) (fun _ _ => rfl)) pe_str (nomark _)) (pss_cons (ps_expr (pe_bm PySem.F.plainAttrs_list PySem.F.slot_list_append PySem.F.type_list_append mt_append (pe_ix ix_list (pv 1) (pe_un un_neg pe_int) (fun _ _ => rfl)) (pa_cons (pe_ix ix_list (pv 2) (pe_un un_neg pe_int) (fun _ _ => rfl)) pa_nil)))
      (pss_cons (ps_expr (pe_bm PySem.F.plainAttrs_list PySem.F.slot_list_append PySem.F.type_list_append mt_append (pv 2) (pa_cons pe_str pa_nil)))
      (pss_one (ps_set (i := 3) sc_law_described.nd rfl (Or.inl rfl) pe_bl)))) pss_nil)))
      (pss_cons (ps_if (PW.pt (pw_and (pt_val (pv 5)) (pw_and1 (pt_val (pv 3))))) (pss_one (ps_ret pe_non)) pss_nil)
      (pss_one (ps_if (pt_not (pt_val (pv 5))) (pss_cons (ps_set (i := 1) sc_law_described.nd rfl (Or.inl rfl) (pe_call G_law_put (hr.mono (by decide)) rfl T.mg_law_put T.F_law_put.kp T.b_law_put .nil pass0 (pa_cons (pv 1) (pa_cons (pv 3) (pa_cons (pv 4) pa_nil)))))
      (pss_cons (ps_if (pt_cmpR op_isN (pv 1) pe_non (nomark _)) (pss_one (ps_ret pe_non)) pss_nil)
      (pss_one (ps_set (i := 3) sc_law_described.nd rfl (Or.inl rfl) (pe_or (pe_cmpR op_eq (pv 4) pe_str (nomark _)) (pe_one (pe_cmpR op_eq (pv 4) pe_str (nomark _)))))))) pss_nil))))))
      (pss_cut (ps_if (pt_cmpR op_ne (pe_ix ix_list (pv 2) (pe_un un_neg pe_int) (fun _ _ => rfl)) pe_str (nomark _)) (pss_one (ps_expr (pe_bm PySem.F.plainAttrs_list PySem.F.slot_list_append PySem.F.type_list_append mt_append (pe_ix ix_list (pv 1) (pe_un un_neg pe_int) (fun _ _ => rfl)) (pa_cons (pe_ix ix_list (pv 2) (pe_un un_neg pe_int) (fun _ _ => rfl)) pa_nil)))) pss_nil)
      (pss_cons (ps_set (i := 2) sc_law_described.nd rfl (Or.inr rfl) (pe_lc (own := [("name", 7)]) (g := gName 7) (tt := _) rfl sc_law_described.nd (pi_list (pv 2)) (blkOk_by (N := ["text", "levels", "names", "ended", "sign", "letter", "wrong", "name"]) (sc := defScope s_law_described) (by decide +kernel)) (fun _ _ _ _ _ => (pg_name (i := 7) sc_law_described.nd rfl (Or.inl rfl))) (fun _ _ _ _ _ => (pts_one (pt_cmpR op_ne (pv 7) pe_str (nomark _)))) (fun _ _ _ _ _ => (pv 7))))
      (pss_cons (ps_setLc (i := 6) (own := [("name", 7)]) (g := gName 7) (tt := _) rfl sc_law_described.nd rfl rfl (sw_true rfl rfl rfl (by decide +kernel)) (pi_list (pv 2)) (blkOk_by (N := ["text", "levels", "names", "ended", "sign", "letter", "wrong", "name"]) (sc := defScope s_law_described) (by decide +kernel)) (fun _ _ _ _ _ => (pg_name (i := 7) sc_law_described.nd rfl (Or.inl rfl))) (fun _ _ _ _ _ => (pts_one (PW.pt (pw_or (pt_cmpR op_gt (pe_callB call_len_str (by rfl) T.n_len (by decide +kernel) (pa_cons (pv 7) pa_nil)) pe_int (nomark _)) (pw_or1 (pt_cmpR op_gt (show PE _ _ (tBM K "list" (rCntF K) _ _) from (pe_bm PySem.F.plainAttrs_list PySem.F.slot_list_count PySem.F.type_list_count mt_fcount (pv 2) (pa_cons (pv 7) pa_nil))) pe_int (nomark _))))))) (fun _ _ _ _ _ => (pv 7)))
      (pss_cons (ps_if (PW.pt (pw_or (pt_cmpR op_ne (pe_callB call_len_seq (by rfl) T.n_len (by decide +kernel) (pa_cons (pv 1) pa_nil)) pe_int (nomark _)) (pw_or (pt_cmpR op_ne (pe_callB call_len_seq (by rfl) T.n_len (by decide +kernel) (pa_cons (pe_ix ix_list (pv 1) pe_int (fun _ _ => rfl)) pa_nil)) pe_int (nomark _)) (pw_or (pt_cmpR op_gt (pe_callB call_len_seq (by rfl) T.n_len (by decide +kernel) (pa_cons (pv 6) pa_nil)) pe_int (nomark _)) (pw_or1 (pt_cmpR op_gt (pe_callB call_len_seq (by rfl) T.n_len (by decide +kernel) (pa_cons (pv 2) pa_nil)) pe_int (nomark _))))))) (pss_one (ps_ret pe_non)) pss_nil)
      (pss_one (ps_ret (pe_ix ix_list (pe_ix ix_list (pv 1) pe_int (fun _ _ => rfl)) pe_int (fun _ _ => rfl))))))))))))), ?_⟩
    have big : 1000000 ≤ sizeLine := by decide
    have ll := Tx_len l
    refine ⟨_, rfl, rfl, _, rfl, ?_⟩
    by_cases h0 : l = [40, 41]
    · subst h0
      refine itY (by decide) ⟨by show 0 ≤ sizeLine; decide, fun t ht => k _ rfl _ _ (same_new ht) (.nil upd_same)⟩
    refine itN (fun e => h0 ?_) ?_
    · have e := V.str.inj e
      have : TL.tl (Tx l) = TL.tl ("()" : Str) := by rw [e]
      rw [tl_Tx, show TL.tl ("()" : Str) = [40, 41] by decide] at this
      exact this
    unfold readL at k k0
    rw [if_neg h0] at k k0
    refine ⟨by show 0 ≤ sizeLine; decide, fun q hq => ⟨by show 1 ≤ sizeLine; decide, fun dl hdl => ⟨by show 1 ≤ sizeLine; decide, fun dn hdn => ?_⟩⟩⟩
    have L0 : Ld H (upd (upd (upd H q (.lst [])) dl (.lst [V.ref q])) dn (.lst [V.str ""])) dl dn [q] la0 := by
      have s1 := same_new (o := .lst []) hq
      have s2 := same_new (o := .lst [V.ref q]) hdl
      have s3 := same_new (o := .lst [V.str ""]) hdn
      have q1 := upd_same (H := H) (a := q) (o := .lst [])
      have l2 := upd_same (H := upd H q (.lst [])) (a := dl) (o := .lst [V.ref q])
      have nq : dl ≠ q := fun e => by rw [e, q1] at hdl; cases hdl
      refine ⟨⟨s3 _ _ l2, ⟨by simp, ⟨⟨[], s3 _ _ (s2 _ _ q1), .nil⟩, trivial⟩⟩, fun e => nq (List.mem_singleton.mp e)⟩, by rw [upd_same, show ("" : Str) = Tx [] by decide]; rfl, fun e => ?_, (s1.trans s2).trans s3, ?_, fun x hx => by rw [List.mem_singleton.mp hx]; exact hq, fun z hz => nomatch hz⟩
      · have e := List.mem_singleton.mp e
        rw [e, s2 _ _ q1] at hdn; cases hdn
      · cases e : H dn with
        | none => rfl
        | some o => rw [s2 _ _ (s1 _ _ e)] at hdn; cases hdn
    clear hq hdl hdn
    generalize upd (upd (upd H q _) dl _) dn _ = H1 at L0 ⊢
    refine ⟨_, rfl, _, rfl, ?_⟩
    refine for_it walk_str (fun i σ H' => ∃ st dl us, la0.run (l.take i) = some st ∧ Ld H H' dl dn us st ∧ cnt st.sk ≤ i ∧ us.length ≤ 1 + i ∧ st.names.length ≤ i ∧ st.cur.length ≤ i ∧ (∀ z ∈ st.names, z.length ≤ i) ∧ ∃ u4 u5, σ = [some (.str (Tx l)), some (.ref dl), some (.ref dn), some (.bl st.ended), u4, u5, none, none])
      ⟨la0, dl, [q], rfl, L0, Nat.le_refl _, Nat.le_refl _, Nat.le_refl _, Nat.le_refl _, (fun z hz => nomatch hz), _, _, rfl⟩ (fun _ _ _ _ _ => trivial) ?_ ?_
    · rintro i v σ H30 H3 hi ⟨st, dl, us, er, L, c1, c2, c3, c4, c5, u4, u5, rfl⟩ ⟨rfl, c, hc, rfl⟩
      have hc := cps_get hc
      rw [cps_size] at hi
      refine ⟨_, rfl, c, _, rfl, rfl, ?_⟩
      rw [letter_in]
      refine ⟨fun σ H' => ∃ st2 us2, st2 = (if letter c = true then { st with cur := st.cur ++ [c] } else st.flush) ∧ Ld H H' dl dn us2 st2 ∧ us2.length ≤ 1 + i ∧ σ = [some (.str (Tx l)), some (.ref dl), some (.ref dn), some (.bl st2.ended), some (.str (Tx [c])), some (.bl (letter c)), none, none], ?_, ?_⟩
      · cases hlc : letter c with
        | true =>
          refine ⟨_, rfl, _, rfl, iteT ?_⟩
          have lcu := Tx_len st.cur
          refine ⟨_, rfl, _, rfl, dn, _, _, _, rfl, rfl, SqL.of L.nms, at_neg1, _, rfl, _, _, rfl, rfl, by rw [show (⟨#[c]⟩ : Str).length = 1 from rfl]; omega, _, rfl, _, rfl, dn, _, _, _, rfl, rfl, L.nms, ix_neg1, ?_⟩
          refine ⟨_, us, rfl, ?_, c2, rfl⟩
          rw [if_pos rfl]
          refine L.letter c ?_
          unfold nmv
          rw [set_last, Tx_app]; rfl
        | false =>
          refine ⟨_, rfl, _, rfl, iteF ?_⟩
          refine ⟨_, rfl, _, rfl, dn, _, _, _, rfl, rfl, SqL.of L.nms, at_neg1, rfl, _, rfl, ?_⟩
          by_cases hcu : st.cur = []
          · refine itNe (by rw [hcu]; decide) ?_
            refine ⟨st, us, by rw [if_neg Bool.false_ne_true, My7.flush_nil hcu], L, c2, rfl⟩
          · refine itNeN (fun e => hcu ?_) ?_
            · have e := V.str.inj e
              exact Tx_inj (e.trans (by decide))
            obtain ⟨q, ut, o, ps, ls, vs, eu, el, hq, hf, hlv, hnq, nd⟩ := L.ls.sk.top
            subst eu
            have hl := L.ls.pcs
            rw [rev_last] at hl
            obtain ⟨F1, F2, F3⟩ := L.flush el hq hf hlv hnq nd rfl
            have h1 := cnt_lev el
            have h3 : (hdK o).length ≤ 1 := by cases o <;> exact (by simp [hdK])
            refine ⟨_, rfl, _, rfl, dl, _, _, _, rfl, rfl, SqL.of hl, at_neg1, .inl ⟨rfl, _, SqL.of hq⟩, _, rfl, _, rfl, dn, _, _, _, rfl, rfl, SqL.of L.nms, at_neg1, q, _, _, rfl, rfl, hq, by rw [List.length_append, hf.len]; omega, ?_⟩
            generalize upd H3 q _ = H4 at F1 F2 F3 ⊢
            refine ⟨_, rfl, .inl ⟨rfl, _, SqL.of F2⟩, dn, _, _, rfl, rfl, F2, by unfold nmv; rw [List.length_append, List.length_map, show [V.str (Tx st.cur)].length = 1 from rfl]; omega, ?_⟩
            refine ⟨_, q :: ut, rfl, ?_, c2, by rw [if_neg Bool.false_ne_true, flush_ne hcu]; rfl⟩
            rw [if_neg Bool.false_ne_true, flush_ne hcu]
            have qd : dl ≠ dn := L.ndl
            refine ⟨F1.upd qd L.ndu (fun xs e => by rw [F2] at e; cases e), ?_, L.ndu, same_upd F3 L.nn, L.nn, L.nu, fun z hz => ?_⟩
            · rw [upd_same]
              show some (HO.lst (_ ++ [V.str ""])) = some (HO.lst (((st.names ++ [st.cur]).map fun z => V.str (Tx z)) ++ [V.str (Tx [])]))
              rw [List.map_append]
              unfold nmv
              rw [show ("" : Str) = Tx [] by decide]; rfl
            · rcases List.mem_append.mp hz with hz | hz
              · exact L.ne z hz
              · rw [List.mem_singleton.mp hz]; exact hcu
      · rintro σ H4 ⟨st2, us2, e2, L2, hu2, rfl⟩
        have hstep : st.step c = if letter c = true then (if st.ended = true then none else some { st with cur := st.cur ++ [c] }) else st.flush.put c := rfl
        cases hlc : letter c with
        | true =>
          rw [hlc, if_pos rfl] at e2 hstep
          subst e2
          refine ⟨_, rfl, _, rfl, iteT ⟨_, rfl, _, rfl, ?_⟩⟩
          cases he : st.ended with
          | true =>
            rw [he, if_pos rfl] at hstep
            refine iteT ?_
            exact k0 (by rw [run_bad hc er hstep]; rfl) _ L2.same
          | false =>
            rw [he, if_neg Bool.false_ne_true] at hstep
            refine iteF ⟨_, rfl, _, rfl, iteF ?_⟩
            refine ⟨_, dl, us2, by rw [run_snoc hc er, hstep, he], L2, Nat.le_succ_of_le c1, by omega, by show st.names.length ≤ i + 1; omega, by show (st.cur ++ [c]).length ≤ i + 1; rw [List.length_append]; exact Nat.succ_le_succ c4, fun z hz => Nat.le_succ_of_le (c5 z hz), _, _, by rw [he]⟩
        | false =>
          rw [hlc, if_neg Bool.false_ne_true] at e2 hstep
          subst e2
          refine ⟨_, rfl, _, rfl, iteF (iteF ⟨_, rfl, _, rfl, iteT ?_⟩)⟩
          have cf := cnt_flush st
          rw [put_eq] at hstep
          refine ⟨_, rfl, _, rfl, _, rfl, dl, _, c, us2, st.flush.sk, rfl, L2.ls, by omega, fun hn H5 s5 => ?_, fun t ht H5 dl5 us5 s5 l5 hq5 hu5 => ?_⟩
          · rw [hn] at hstep
            refine ⟨_, rfl, rfl, _, rfl, ?_⟩
            refine itY rfl ?_
            exact k0 (by rw [run_bad hc er hstep]; rfl) _ (L2.same.trans s5)
          · rw [ht] at hstep
            refine ⟨_, rfl, rfl, _, rfl, ?_⟩
            refine itN (fun z => nomatch z) ?_
            refine ⟨_, rfl, rfl, ?_⟩
            have eqc : ∀ (d : Nat) (z : Str), z = Tx [d] → decide (V.str (⟨#[c]⟩ : Str) = V.str z) = (c == d) := fun d z hz => by
              rw [hz, Bool.eq_iff_iff, decide_eq_true_iff, beq_iff_eq]
              exact ⟨fun e => by have := Tx_inj (a := [c]) (V.str.inj e); exact (List.cons.inj this).1, fun e => by rw [e]; rfl⟩
            have ecl : closer c = (c == 41 || c == 93) := rfl
            have fin : ∃ st' dl us, la0.run (l.take (i + 1)) = some st' ∧ Ld H H5 dl dn us st' ∧ cnt st'.sk ≤ i + 1 ∧ us.length ≤ 1 + (i + 1) ∧ st'.names.length ≤ i + 1 ∧ st'.cur.length ≤ i + 1 ∧ (∀ z ∈ st'.names, z.length ≤ i + 1) ∧ dl = dl5 ∧ st'.ended = closer c := by
              refine ⟨_, dl5, us5, (run_snoc hc er).trans hstep, L2.put s5 l5 hq5 _, Nat.le_trans (putS_cnt ht) (by omega), by omega, ?_, ?_, ?_, rfl, rfl⟩
              · show st.flush.names.length ≤ i + 1
                by_cases hcu : st.cur = []
                · rw [My7.flush_nil hcu]; omega
                · rw [flush_ne hcu]
                  show (st.names ++ [st.cur]).length ≤ _
                  rw [List.length_append]; exact Nat.succ_le_succ c3
              · show st.flush.cur.length ≤ i + 1
                rw [My7.flush_cur]; exact Nat.zero_le _
              · intro z hz
                have hz : z ∈ st.flush.names := hz
                by_cases hcu : st.cur = []
                · rw [My7.flush_nil hcu] at hz; exact Nat.le_succ_of_le (c5 z hz)
                · rw [flush_ne hcu] at hz
                  rcases List.mem_append.mp hz with hz | hz
                  · exact Nat.le_succ_of_le (c5 z hz)
                  · rw [List.mem_singleton.mp hz]; exact Nat.le_succ_of_le c4
            obtain ⟨st', dl', us', f1, f2, f3, f4, f5, f6, f8, rfl, f7⟩ := fin
            rw [show V.str (Tx [c]) = V.str (⟨#[c]⟩ : Str) from rfl, eqc 41 ")" (by decide)]
            cases h41 : c == 41 with
            | true =>
              refine ⟨_, rfl, iteT ?_⟩
              exact ⟨st', dl', us', f1, f2, f3, f4, f5, f6, f8, _, _, by rw [f7, ecl, h41]; rfl⟩
            | false =>
              refine ⟨_, rfl, iteF ⟨_, rfl, rfl, ?_⟩⟩
              rw [eqc 93 "]" (by decide)]
              exact ⟨st', dl', us', f1, f2, f3, f4, f5, f6, f8, _, _, by rw [f7, ecl, h41]; rfl⟩
    · rintro σ H3 ⟨st, dl, us, er, L, c1, c2, c3, c4, c5, u4, u5, rfl⟩
      rw [cps_size] at er c1 c2 c3 c4 c5
      rw [List.take_length] at er
      have cf := cnt_flush st
      refine ⟨fun σ H' => ∃ us2, Ls H' dl us2 st.flush.sk ∧ Same H H' ∧ H' dn = some (.lst (nmv st)) ∧ σ = [some (.str (Tx l)), some (.ref dl), some (.ref dn), some (.bl st.ended), u4, u5, none, none], ?_, ?_⟩
      · refine ⟨_, rfl, _, rfl, dn, _, _, _, rfl, rfl, SqL.of L.nms, at_neg1, rfl, _, rfl, ?_⟩
        by_cases hcu : st.cur = []
        · refine itNe (by rw [hcu]; decide) ?_
          exact ⟨us, by rw [My7.flush_nil hcu]; exact L.ls, L.same, L.nms, rfl⟩
        · refine itNeN (fun e => hcu ?_) ?_
          · have e := V.str.inj e
            exact Tx_inj (e.trans (by decide))
          obtain ⟨q, ut, o, ps, ls, vs, eu, el, hq, hf, hlv, hnq, nd⟩ := L.ls.sk.top
          subst eu
          have hl := L.ls.pcs
          rw [rev_last] at hl
          obtain ⟨F1, F2, F3⟩ := L.flush el hq hf hlv hnq nd rfl
          have h1 := cnt_lev el
          have h3 : (hdK o).length ≤ 1 := by cases o <;> exact (by simp [hdK])
          refine ⟨_, rfl, _, rfl, dl, _, _, _, rfl, rfl, SqL.of hl, at_neg1, .inl ⟨rfl, _, SqL.of hq⟩, _, rfl, _, rfl, dn, _, _, _, rfl, rfl, SqL.of L.nms, at_neg1, q, _, _, rfl, rfl, hq, by rw [List.length_append, hf.len]; omega, ?_⟩
          exact ⟨_, by rw [flush_ne hcu]; exact F1, F3, F2, rfl⟩
      rintro σ H4 ⟨us2, L2, s4, n4, rfl⟩
      have ens : nmv st = (st.names ++ [st.cur]).map fun z => V.str (Tx z) := by unfold nmv; rw [List.map_append]; rfl
      rw [ens] at n4
      have hfn : (st.names ++ [st.cur]).filter (fun z => decide (z ≠ [])) = st.flush.names := by
        rw [List.filter_append, List.filter_eq_self.mpr fun z hz => decide_eq_true (L.ne z hz)]
        by_cases hcu : st.cur = []
        · rw [My7.flush_nil hcu, hcu]; simp
        · rw [flush_ne hcu]; simp [hcu]
      generalize hzs : st.names ++ [st.cur] = zs at n4 hfn
      have lzs : zs.length ≤ 400001 := by rw [← hzs, List.length_append, show [st.cur].length = 1 from rfl]; omega
      refine ⟨_, rfl, dn, rfl, ⟨_, SqL.of n4⟩, fun D hD => lc_it (walk_list (xs := zs.map fun z => V.str (Tx z))) (PvS H4 D fun i => ((zs.take i).filter fun z => decide (z ≠ [])).map fun z => V.str (Tx z)) (pv0 hD rfl) (fun i H5 _ p => p.1.seq (SqL.of n4)) ?_ ?_⟩
      · rintro i x H50 H5 hi p ⟨rfl, hx⟩
        rw [List.getElem?_map] at hx
        cases hw : zs[i]? with
        | none => rw [hw] at hx; cases hx
        | some z =>
          rw [hw] at hx
          cases hx
          refine ⟨rfl, _, rfl, rfl, _, rfl, ?_⟩
          have hle : (((zs.take i).filter fun z => decide (z ≠ [])).map fun z => V.str (Tx z)).length ≤ 1000000 := by
            rw [List.length_map]
            have h1 := List.length_filter_le (fun z : List Nat => decide (z ≠ [])) (zs.take i)
            have h2 : (zs.take i).length ≤ zs.length := by rw [List.length_take]; omega
            omega
          by_cases hz : z = []
          · refine itNe (by rw [hz]; decide) ?_
            exact p.skip (by rw [take_succ hw, List.filter_append]; simp [hz])
          · refine itNeN (fun e => hz (Tx_inj ((V.str.inj e).trans (by decide)))) ⟨_, rfl, ?_⟩
            exact p.push (y := .str (Tx z)) hD (by rw [take_succ hw, List.filter_append, List.map_append]; simp [hz]) hle
      · rintro H5 ⟨s5, h5⟩
        have h5 : H5 D = some (.lst (((zs.take (zs.map fun z => V.str (Tx z)).length).filter fun z => decide (z ≠ [])).map fun z => V.str (Tx z))) := h5
        rw [List.length_map, List.take_length, hfn] at h5
        have L5 := L2.same s5
        have s5 := s4.trans s5
        have lfn : st.flush.names.length ≤ 400001 := by
          rw [← hfn]
          exact Nat.le_trans (List.length_filter_le _ _) lzs
        have hfin : (la0.run l).bind La.fin = if My7.namesOk st.flush.names then My7.one st.flush.sk else none := by rw [er]; rfl
        rw [hfin] at k k0
        have clen : ∀ z ∈ st.flush.names, z.length ≤ 400000 := fun z hz => by
          by_cases hcu : st.cur = []
          · rw [My7.flush_nil hcu] at hz; exact Nat.le_trans (c5 z hz) hl
          · rw [flush_ne hcu] at hz
            rcases List.mem_append.mp hz with hz | hz
            · exact Nat.le_trans (c5 z hz) hl
            · rw [List.mem_singleton.mp hz]; exact Nat.le_trans c4 hl
        clear hfn hfin n4 hD hzs lzs
        generalize st.flush.names = fn at h5 lfn k k0 clen
        generalize st.flush.sk = sk at L5 k k0 cf
        refine ⟨_, rfl, D, rfl, ⟨_, SqL.of h5⟩, fun G hG => lc_it (walk_list (xs := fn.map fun z => V.str (Tx z))) (PvS H5 G fun i => ((fn.take i).filter (badN fn)).map fun z => V.str (Tx z)) (pv0 hG rfl) (fun i H6 _ p => p.1.seq (SqL.of h5)) ?_ ?_⟩
        · rintro i x H60 H6 hi p ⟨rfl, hx⟩
          rw [List.getElem?_map] at hx
          cases hw : fn[i]? with
          | none => rw [hw] at hx; cases hx
          | some z =>
            rw [hw] at hx
            cases hx
            have lz := Tx_len z
            have cz := clen z (List.mem_of_getElem? hw)
            refine ⟨rfl, _, rfl, _, rfl, by omega, _, _, rfl, rfl, _, rfl, ?_⟩
            have hle : (((fn.take i).filter (badN fn)).map fun z => V.str (Tx z)).length ≤ 1000000 := by
              rw [List.length_map]
              have h1 := List.length_filter_le (badN fn) (fn.take i)
              have h2 : (fn.take i).length ≤ fn.length := by rw [List.length_take]; omega
              omega
            have push : badN fn z = true → ∃ acc, H6 G = some (.lst acc) ∧ acc.length < sizeLine ∧ PvS H5 G (fun i => ((fn.take i).filter (badN fn)).map fun z => V.str (Tx z)) (i + 1) (upd H6 G (.lst (acc ++ [V.str (Tx z)]))) := fun hb => p.push hG (by rw [take_succ hw, List.filter_append, List.map_append]; simp [hb]) hle
            have skip : badN fn z = false → PvS H5 G (fun i => ((fn.take i).filter (badN fn)).map fun z => V.str (Tx z)) (i + 1) H6 := fun hb => p.skip (by rw [take_succ hw, List.filter_append]; simp [hb])
            by_cases h8 : 8 < z.length
            · refine itY (by omega) ?_
              dsimp only
              refine ifT rfl ⟨_, rfl, push ?_⟩
              unfold badN; rw [decide_eq_true h8]; rfl
            · refine itN (by omega) ?_
              refine ⟨_, rfl, .inl ⟨rfl, _, p.1.seq (SqL.of h5)⟩, _, rfl, D, _, _, rfl, rfl, p.1.seq (SqL.of h5), rfl, flat_tx fn, _, _, rfl, rfl, _, rfl, ?_⟩
              rw [count_tx]
              by_cases h1 : 1 < fn.count z
              · refine itY (by omega) ⟨_, rfl, push ?_⟩
                unfold badN; rw [decide_eq_true h1, Bool.or_true]
              · refine itN (by omega) (skip ?_)
                unfold badN; rw [decide_eq_false h1, decide_eq_false h8]; rfl
        rintro H6 ⟨s6, h6⟩
        have h6 : H6 G = some (.lst (((fn.take (fn.map fun z => V.str (Tx z)).length).filter (badN fn)).map fun z => V.str (Tx z))) := h6
        rw [List.length_map, List.take_length] at h6
        have L6 := L5.same s6
        have d6 := s6 _ _ h5
        have s6 := s5.trans s6
        have hu := L6.sk.at_.len
        rw [lev_len] at hu
        refine ⟨_, rfl, dl, _, rfl, .inl (SqL.of L6.pcs), rfl, _, rfl, ?_⟩
        obtain ⟨base', op⟩ := sk
        cases op with
        | cons a r =>
          refine itNeN (fun e => ?_) ?_
          · have := V.int.inj e
            rw [List.length_map, List.length_reverse, hu, List.length_cons] at this
            omega
          dsimp only
          refine ifT rfl (k0 ?_ _ s6)
          rw [one_none (.inl (List.cons_ne_nil _ _))]
          split <;> rfl
        | nil =>
        obtain ⟨q, ut, o, ps, ls, vs, eu, el, hq, hf, hlv, hnq, nd⟩ := L6.sk.top
        have hlev : lev ⟨base', []⟩ = [(none, base')] := rfl
        rw [hlev] at el
        cases el
        have : ut = [] := by cases ut with | nil => rfl | cons x r => exact hlv.elim
        subst this
        subst eu
        have hl6 := L6.pcs
        have at0 : atI ([q].reverse.map V.ref) 0 = some (V.ref q) := at_zero
        refine itNe rfl ⟨_, rfl, dl, _, 0, _, rfl, rfl, SqL.of hl6, at0, q, _, rfl, .inl (SqL.of hq), rfl, _, rfl, ?_⟩
        by_cases h1 : base'.length = 1
        · obtain ⟨f, rfl⟩ : ∃ f, base' = [f] := by
            cases base' with
            | nil => cases h1
            | cons f r => cases r with
              | nil => exact ⟨f, rfl⟩
              | cons g r => simp at h1
          obtain ⟨v, rfl⟩ : ∃ v, vs = [v] := by
            cases vs with
            | nil => cases hf
            | cons v r => cases hf with | cons a b => cases b; exact ⟨v, rfl⟩
          have hv : Fo H6 v f := by cases hf with | cons a b => exact a
          refine itNe rfl ⟨_, rfl, G, _, rfl, .inl (SqL.of h6), _, _, rfl, rfl, _, rfl, ?_⟩
          by_cases hb : fn.filter (badN fn) = []
          · refine itN (by rw [hb]; decide) ⟨_, rfl, D, _, rfl, .inl (SqL.of d6), _, _, rfl, rfl, _, rfl, ?_⟩
            have hb := (badN_none fn).mp hb
            by_cases h12 : fn.length ≤ 12
            · refine itN (by rw [List.length_map]; omega) ?_
              have ok : My7.namesOk fn := ⟨hb.1, hb.2, h12⟩
              rw [if_pos ok] at k
              exact ⟨_, rfl, dl, _, 0, _, rfl, rfl, SqL.of hl6, at0, q, _, 0, _, rfl, rfl, SqL.of hq, at_zero, k f rfl v H6 s6 hv⟩
            · refine itY (by rw [List.length_map]; omega) (k0 ?_ _ s6)
              rw [if_neg (fun h => h12 h.2.2)]
          · refine itY (by rw [List.length_map]; have := List.length_pos_iff.mpr hb; omega) ?_
            dsimp only
            refine ifT rfl (k0 ?_ _ s6)
            rw [if_neg (fun h => hb ((badN_none fn).mpr ⟨h.1, h.2.1⟩))]
        · refine itNeN (fun e => h1 ?_) ?_
          · have := V.int.inj e
            have e2 : (hdK none ++ vs).length = base'.length := hf.len
            rw [e2] at this
            omega
          dsimp only
          refine ifT rfl (k0 ?_ _ s6)
          rw [one_none (.inr h1)]
          split <;> rfl
end
end My
set_option maxRecDepth 100000
set_option maxHeartbeats 4000000
set_option exponentiation.threshold 10000
namespace My
open PySem L2
open C8 (pss_cut)
open My7 (Fm Sk La Pr showF showL joinSp sgn csgn opener closer pushes letter)
theorem cutS_le (z : Str) (a b : Option Int) : (cutS z a b).length ≤ z.length := cutS_length z a b
theorem cutS_tk (z : Str) (n : Nat) : (cutS z none (some (n : Int))).length ≤ n := by
  show ((((z.cps.toList.drop _).take _)).toArray).size ≤ _
  rw [List.size_toArray, List.length_take, HT.sIx_none, HT.sIx_nat]
  omega
theorem cutS_dp (z : Str) (n : Nat) : (cutS z (some (n : Int)) none).length ≤ z.length - n := by
  show ((((z.cps.toList.drop _).take _)).toArray).size ≤ _
  rw [List.size_toArray, List.length_take, HT.sIx_none, HT.sIx_nat]
  omega
theorem cutS_mid (z : Str) (n m : Nat) : (cutS z (some (n : Int)) (some (m : Int))).length ≤ m - n := by
  show ((((z.cps.toList.drop _).take _)).toArray).size ≤ _
  rw [List.size_toArray, List.length_take, HT.sIx_nat, HT.sIx_nat, List.length_drop]
  omega
theorem others_len : (("!\"#$&'*+,-./0123456789:;<=>?@ABCDEFGHIJKLMNOPQRSTUVWXYZ\\^_`{|}~" : Str)).length = 63 := by decide +kernel
theorem others_at : ∀ k : Fin 63, (atI (("!\"#$&'*+,-./0123456789:;<=>?@ABCDEFGHIJKLMNOPQRSTUVWXYZ\\^_`{|}~" : Str)).cps.toList ((k.val : Nat) : Int)).isSome = true := by decide +kernel
theorem brack_at : ∀ k : Fin 10, (atI ((" ()[] ()[]" : Str)).cps.toList ((k.val : Nat) : Int)).isSome = true := by decide +kernel
def W1 : List Str := ["", " ", "()", "( )", "[]", "() ", "(())", "()()", "a", "a ", " a", "A", "a1", "abcdefgh", "abcdefghi"]
def W2 : List Str := ["(a)", "(a b)", "(a b) ", " (a b)", "( a b)", "(a b )", "(a  b)", "(a a)", "a b", "[a b]"]
def W3 : List Str := ["[a b c]", "(a b", "a b)", "(a b))", "(a b]", "[a b c)", "(a ())", "(a(b c))", "((a b)c)"]
def W4 : List Str := ["((a b) c)", "{a b}", "(loose firm)", "(a (b [c d a]))"]
theorem W_len : ∀ z ∈ W1 ++ W2 ++ W3 ++ W4, z.length ≤ 100 := by decide +kernel
theorem at_sv {ss : List Str} {j : Int} (h0 : 0 ≤ j) (h1 : j < ss.length) : ∃ z, z ∈ ss ∧ atI (sv ss) j = some (V.str z) := by
  obtain ⟨n, rfl⟩ := Int.eq_ofNat_of_zero_le h0
  have hn : n < ss.length := by omega
  exact ⟨ss[n], List.getElem_mem hn, atI_nat (by rw [List.getElem?_map, List.getElem?_eq_getElem hn]; rfl)⟩
section
variable {P : Program} {w : World} {K : PySem.W.Frag} {mg : Str → Option Value} {base : Heap} {A : Ad}
def spSign : Sp := fun vs H Q _ => ∃ d : Int, vs = [.int d] ∧ 0 ≤ d ∧ ∀ z : Str, z.length = 1 → Q (.str z) H
theorem ok_sign (T : Txt P w K mg A) : FnOk P w K mg base CX0 1 A.a_law_sign A.d_law_sign ["draw"] spSign := by
  refine T.F_law_sign.ok sc_law_sign (fun vs H Q E h => ?_) (fun cdv A' outer s H vs Q E hr h => ?_)
  · obtain ⟨d, rfl, _⟩ := h
    rfl
  · obtain ⟨d, rfl, d0, k⟩ := h
    refine ⟨_, (pss_cons (ps_set (i := 1) sc_law_sign.nd rfl (Or.inl rfl) pe_str)
      (pss_cons (ps_set (i := 2) sc_law_sign.nd rfl (Or.inl rfl) (pe_op op_mod (pe_callTy call_int1 (by rfl) T.n_int (by decide +kernel) (pa_cons (pv 0) pa_nil)) pe_int))
      (pss_cons (ps_if (pt_cmpR op_lt (pv 2) pe_int (nomark _)) (pss_one (ps_ret (pe_ix ix_str pe_str (pe_op op_mod (pe_callTy call_int1 (by rfl) T.n_int (by decide +kernel) (pa_cons (pe_op op_fdiv (pv 0) pe_int) pa_nil)) pe_int) (fun _ _ => rfl)))) pss_nil)
      (pss_cons (ps_if (pt_cmpR op_eq (pv 2) pe_int (nomark _)) (pss_one (ps_ret (pe_ix ix_str pe_str (pe_op op_mod (pe_callTy call_int1 (by rfl) T.n_int (by decide +kernel) (pa_cons (pe_op op_fdiv (pv 0) pe_int) pa_nil)) pe_int) (fun _ _ => rfl)))) pss_nil)
      (pss_one (ps_ret (pe_ix ix_str (pv 1) (pe_op op_mod (pe_callTy call_int1 (by rfl) T.n_int (by decide +kernel) (pa_cons (pe_op op_fdiv (pv 0) pe_int) pa_nil)) (pe_callB call_len_str (by rfl) T.n_len (by decide +kernel) (pa_cons (pv 1) pa_nil))) (fun _ _ => rfl)))))))), ?_⟩
    refine ⟨_, rfl, .inl ⟨_, rfl, _, _, rfl, rfl, by show (0 : Int) < 4; decide, ?_⟩⟩
    refine ⟨_, rfl, _, _, rfl, rfl, _, rfl, ite2 (fun hb => ?_) (fun hb => ?_)⟩
    · have m0 := Int.emod_nonneg (d / 4) (show (10 : Int) ≠ 0 by decide)
      have m1 := Int.emod_lt_of_pos (d / 4) (show (0 : Int) < 10 by decide)
      obtain ⟨c, hc⟩ := Option.isSome_iff_exists.mp (brack_at ⟨(d / 4 % 10).toNat, by omega⟩)
      have hc : atI _ (((d / 4 % 10).toNat : Nat) : Int) = some c := hc
      rw [show (((d / 4 % 10).toNat : Nat) : Int) = d / 4 % 10 by omega] at hc
      exact ⟨_, rfl, _, _, rfl, rfl, ⟨by decide, by decide⟩, .inl ⟨_, rfl, _, _, rfl, rfl, by show (0 : Int) < 10; decide, _, _, _, rfl, rfl, by decide, hc, k _ rfl⟩⟩
    refine ⟨_, rfl, rfl, _, rfl, ite2 (fun hb => ?_) (fun hb => ?_)⟩
    · have m0 := Int.emod_nonneg (d / 4) (show (26 : Int) ≠ 0 by decide)
      have m1 := Int.emod_lt_of_pos (d / 4) (show (0 : Int) < 26 by decide)
      have ea := alpha_at ⟨(d / 4 % 26).toNat, by omega⟩
      have ea : atI (("abcdefghijklmnopqrstuvwxyz" : Str)).cps.toList (((d / 4 % 26).toNat : Nat) : Int) = some (97 + (d / 4 % 26).toNat) := ea
      rw [show (((d / 4 % 26).toNat : Nat) : Int) = d / 4 % 26 by omega] at ea
      exact ⟨_, rfl, _, _, rfl, rfl, ⟨by decide, by decide⟩, .inl ⟨_, rfl, _, _, rfl, rfl, by show (0 : Int) < 26; decide, _, _, _, rfl, rfl, alpha_len, ea, k _ rfl⟩⟩
    have m0 := Int.emod_nonneg (d / 4) (show (63 : Int) ≠ 0 by decide)
    have m1 := Int.emod_lt_of_pos (d / 4) (show (0 : Int) < 63 by decide)
    obtain ⟨c, hc⟩ := Option.isSome_iff_exists.mp (others_at ⟨(d / 4 % 63).toNat, by omega⟩)
    have hc : atI _ (((d / 4 % 63).toNat : Nat) : Int) = some c := hc
    rw [show (((d / 4 % 63).toNat : Nat) : Int) = d / 4 % 63 by omega] at hc
    refine ⟨_, rfl, _, rfl, _, _, rfl, rfl, ⟨by decide, by decide⟩, .inl ⟨_, rfl, _, rfl, _, rfl, by rw [others_len]; decide, _, _, rfl, rfl, by rw [others_len]; show (0 : Int) < 63; decide, _, _, _, rfl, rfl, by rw [others_len]; decide, by rw [others_len]; exact hc, k _ rfl⟩⟩
def spEdited (K : PySem.W.Frag) : Sp := fun vs H Q _ => ∃ (p : Addr) (X : Str) (ns : List Int) (i : Int), vs = [.str X, .ref p, .int i] ∧ SqL K H p (ns.map V.int) ∧ Pool ns ∧ 0 ≤ i ∧ i + 2 < ns.length ∧ X.length ≤ 100000 ∧
  ∀ (X' : Str), X'.length ≤ X.length + 8 → Q (.str X') H
theorem ok_edited (T : Txt P w K mg A) : FnOk P w K mg base CX0 3 A.a_law_edited A.d_law_edited ["text", "pool", "at"] (spEdited K) := by
  have G_law_sign := ok_sign (P := P) (w := w) (base := base) T
  refine T.F_law_edited.ok sc_law_edited (fun vs H Q E h => ?_) (fun cdv A' outer s H vs Q E hr h => ?_)
  · obtain ⟨p, X, ns, i, rfl, _⟩ := h
    rfl
  · obtain ⟨p, X, ns, i, rfl, hS, hp, i0, i3, hX, k⟩ := h
    refine ⟨_, (pss_cons (ps_set (i := 3) sc_law_edited.nd rfl (Or.inl rfl) (pe_op op_mod (pe_callTy call_int1 (by rfl) T.n_int (by decide +kernel) (pa_cons (pe_ix ix_list (pv 1) (pv 2) (fun _ _ => rfl)) pa_nil)) pe_int))
      (pss_cons (ps_set (i := 4) sc_law_edited.nd rfl (Or.inl rfl) (pe_op op_mod (pe_callTy call_int1 (by rfl) T.n_int (by decide +kernel) (pa_cons (pe_ix ix_list (pv 1) (pe_op op_add (pv 2) pe_int) (fun _ _ => rfl)) pa_nil)) (pe_op op_add (pe_callB call_len_str (by rfl) T.n_len (by decide +kernel) (pa_cons (pv 0) pa_nil)) pe_int)))
      (pss_cons (ps_set (i := 5) sc_law_edited.nd rfl (Or.inl rfl) (pe_call G_law_sign (hr.mono (by decide)) rfl T.mg_law_sign T.F_law_sign.kp T.b_law_sign .nil pass0 (pa_cons (pe_ix ix_list (pv 1) (pe_op op_add (pv 2) pe_int) (fun _ _ => rfl)) pa_nil)))
      (pss_cons (ps_if (pt_cmpR op_eq (pv 3) pe_int (nomark _)) (pss_one (ps_ret (pe_op op_add_str (pe_op op_add_str (pe_slice sl_str (pv 0) po_none (po_some (pv 4))) (pv 5)) (pe_slice sl_str (pv 0) (po_some (pv 4)) po_none)))) pss_nil)
      (pss_cons (ps_if (pt_cmpR op_eq (pv 3) pe_int (nomark _)) (pss_one (ps_ret (pe_op op_add_str (pe_slice sl_str (pv 0) po_none (po_some (pv 4))) (pe_slice sl_str (pv 0) (po_some (pe_op op_add (pv 4) pe_int)) po_none)))) pss_nil)
      (pss_cons (ps_if (pt_cmpR op_eq (pv 3) pe_int (nomark _)) (pss_one (ps_ret (pe_op op_add_str (pe_op op_add_str (pe_slice sl_str (pv 0) po_none (po_some (pv 4))) (pv 5)) (pe_slice sl_str (pv 0) (po_some (pe_op op_add (pv 4) pe_int)) po_none)))) pss_nil)
      (pss_cons (ps_if (pt_cmpR op_eq (pv 3) pe_int (nomark _)) (pss_one (ps_ret (pe_op op_add_str (pe_op op_add_str (pe_op op_add_str (pe_slice sl_str (pv 0) po_none (po_some (pv 4))) (pe_slice sl_str (pv 0) (po_some (pe_op op_add (pv 4) pe_int)) (po_some (pe_op op_add (pv 4) pe_int)))) (pe_slice sl_str (pv 0) (po_some (pv 4)) (po_some (pe_op op_add (pv 4) pe_int)))) (pe_slice sl_str (pv 0) (po_some (pe_op op_add (pv 4) pe_int)) po_none)))) pss_nil)
      (pss_cons (ps_set (i := 6) sc_law_edited.nd rfl (Or.inl rfl) (pe_slice sl_str (pv 0) (po_some (pv 4)) (po_some (pe_op op_add (pe_op op_add (pv 4) pe_int) (pe_op op_mod (pe_callTy call_int1 (by rfl) T.n_int (by decide +kernel) (pa_cons (pe_ix ix_list (pv 1) (pe_op op_add (pv 2) pe_int) (fun _ _ => rfl)) pa_nil)) pe_int)))))
      (pss_one (ps_ret (pe_op op_add_str (pe_op op_add_str (pe_slice sl_str (pv 0) po_none (po_some (pv 4))) (pv 6)) (pe_slice sl_str (pv 0) (po_some (pv 4)) po_none)))))))))))), ?_⟩
    obtain ⟨x0, m0, e0⟩ := atI_ok (xs := ns) (j := i) (by omega) (by omega)
    obtain ⟨x1, m1, e1⟩ := atI_ok (xs := ns) (j := i + 1) (by omega) (by omega)
    obtain ⟨x2, m2, e2⟩ := atI_ok (xs := ns) (j := i + 2) (by omega) (by omega)
    have hb2 := hp x2 m2
    have big : 1000000 ≤ sizeLine := by decide
    refine ⟨_, rfl, _, rfl, _, _, _, _, rfl, rfl, hS, e0, .inl ⟨_, rfl, _, _, rfl, rfl, by show (0 : Int) < 5; decide, ?_⟩⟩
    dsimp only
    generalize x0 % 5 = way
    have lp : (0 : Int) < (X.length : Int) + 1 := by omega
    refine ⟨_, rfl, _, rfl, _, _, rfl, rfl, _, _, _, _, rfl, rfl, hS, e1, .inl ⟨_, rfl, _, rfl, X, rfl, by omega, _, _, rfl, rfl, _, _, rfl, rfl, lp, ?_⟩⟩
    have k0 := Int.emod_nonneg x1 (show (X.length : Int) + 1 ≠ 0 by omega)
    have k1 := Int.emod_lt_of_pos x1 lp
    dsimp only
    generalize x1 % ((X.length : Int) + 1) = kk at k0 k1 ⊢
    obtain ⟨n, rfl⟩ := Int.eq_ofNat_of_zero_le k0
    refine ⟨_, rfl, _, rfl, _, _, rfl, rfl, _, _, _, _, rfl, rfl, hS, e2, x2, rfl, hb2.1, fun z hz => ?_⟩
    have hn1 : ((n : Int) + 1) = ((n + 1 : Nat) : Int) := by omega
    have hn2 : ((n : Int) + 2) = ((n + 2 : Nat) : Int) := by omega
    have c1 := cutS_tk X n
    have c2 := cutS_dp X n
    have c3 := cutS_dp X (n + 1)
    have c4 := cutS_dp X (n + 2)
    have c5 := cutS_mid X (n + 1) (n + 2)
    have c6 := cutS_mid X n (n + 1)
    rw [← hn1] at c3 c5 c6
    rw [← hn2] at c4 c5
    refine ⟨_, rfl, rfl, _, rfl, ite2 (fun hb => ?_) (fun hb => ?_)⟩
    · refine ⟨_, rfl, _, rfl, _, rfl, X, rfl, by omega, _, rfl, _, _, rfl, rfl, by omega, _, rfl, _, rfl, _, rfl, X, rfl, by omega, _, _, rfl, rfl, ?_, k _ ?_⟩
      · rw [Str.length_append]; omega
      · rw [Str.length_append, Str.length_append]; omega
    refine ⟨_, rfl, rfl, _, rfl, ite2 (fun hb => ?_) (fun hb => ?_)⟩
    · refine ⟨_, rfl, _, rfl, _, rfl, X, rfl, by omega, _, rfl, _, rfl, _, _, rfl, rfl, _, rfl, X, rfl, by omega, _, _, rfl, rfl, ?_, k _ ?_⟩
      · omega
      · rw [Str.length_append]; omega
    refine ⟨_, rfl, rfl, _, rfl, ite2 (fun hb => ?_) (fun hb => ?_)⟩
    · refine ⟨_, rfl, _, rfl, _, rfl, X, rfl, by omega, _, rfl, _, _, rfl, rfl, by omega, _, rfl, _, rfl, _, _, rfl, rfl, _, rfl, X, rfl, by omega, _, _, rfl, rfl, ?_, k _ ?_⟩
      · rw [Str.length_append]; omega
      · rw [Str.length_append, Str.length_append]; omega
    refine ⟨_, rfl, rfl, _, rfl, ite2 (fun hb => ?_) (fun hb => ?_)⟩
    · refine ⟨_, rfl, _, rfl, _, rfl, X, rfl, by omega, _, rfl, _, rfl, _, _, rfl, rfl, _, rfl, _, rfl, _, _, rfl, rfl, _, rfl, X, rfl, by omega, _, _, rfl, rfl, ?_, _, rfl, _, rfl, _, rfl, _, rfl, _, _, rfl, rfl, _, rfl, X, rfl, by omega, _, _, rfl, rfl, ?_, _, rfl, _, rfl, _, _, rfl, rfl, _, rfl, X, rfl, by omega, _, _, rfl, rfl, ?_, k _ ?_⟩
      · omega
      · rw [Str.length_append]; omega
      · rw [Str.length_append, Str.length_append]; omega
      · rw [Str.length_append, Str.length_append, Str.length_append]; omega
    · have q0 := Int.emod_nonneg x2 (show (4 : Int) ≠ 0 by decide)
      have q1 := Int.emod_lt_of_pos x2 (show (0 : Int) < 4 by decide)
      have c7 := cutS_mid X n (n + 1 + (x2 % 4).toNat)
      rw [show ((n + 1 + (x2 % 4).toNat : Nat) : Int) = (n : Int) + 1 + x2 % 4 by omega] at c7
      refine ⟨_, rfl, _, rfl, _, rfl, _, rfl, _, _, rfl, rfl, _, rfl, _, rfl, _, _, rfl, rfl, _, _, _, _, rfl, rfl, hS, e2, .inl ⟨_, rfl, _, _, rfl, rfl, by show (0 : Int) < 4; decide, _, _, rfl, rfl, _, rfl, X, rfl, by omega, ?_⟩⟩
      dsimp only
      generalize cutS X (some (n : Int)) (some ((n : Int) + 1 + x2 % 4)) = more at c7 ⊢
      refine ⟨_, rfl, _, rfl, _, rfl, X, rfl, by omega, _, rfl, _, _, rfl, rfl, ?_, _, rfl, _, rfl, _, rfl, X, rfl, by omega, _, _, rfl, rfl, ?_, k _ ?_⟩
      · omega
      · rw [Str.length_append]; omega
      · rw [Str.length_append, Str.length_append]; omega
def spWritten : Sp := fun vs H Q _ => ∃ d : Int, vs = [.int d] ∧ ∀ (X : Str) H', Same H H' → X.length ≤ 100 → Q (.str X) H'
theorem ok_written (T : Txt P w K mg A) : FnOk P w K mg base CX0 1 A.a_law_written A.d_law_written ["draw"] spWritten := by
  refine T.F_law_written.ok sc_law_written (fun vs H Q E h => ?_) (fun cdv A' outer s H vs Q E hr h => ?_)
  · obtain ⟨d, rfl, _⟩ := h
    rfl
  · obtain ⟨d, rfl, k⟩ := h
    refine ⟨_, (pss_cons (ps_set (i := 1) sc_law_written.nd rfl (Or.inl rfl) (pe_lst (pa_cons pe_str (pa_cons pe_str (pa_cons pe_str (pa_cons pe_str (pa_cons pe_str (pa_cons pe_str (pa_cons pe_str (pa_cons pe_str (pa_cons pe_str (pa_cons pe_str (pa_cons pe_str (pa_cons pe_str (pa_cons pe_str (pa_cons pe_str (pa_cons pe_str pa_nil)))))))))))))))))
      (pss_cons (ps_set (i := 1) sc_law_written.nd rfl (Or.inl rfl) (pe_op op_cat (pv 1) (pe_lst (pa_cons pe_str (pa_cons pe_str (pa_cons pe_str (pa_cons pe_str (pa_cons pe_str (pa_cons pe_str (pa_cons pe_str (pa_cons pe_str (pa_cons pe_str (pa_cons pe_str pa_nil)))))))))))))
      (pss_cons (ps_set (i := 1) sc_law_written.nd rfl (Or.inl rfl) (pe_op op_cat (pv 1) (pe_lst (pa_cons pe_str (pa_cons pe_str (pa_cons pe_str (pa_cons pe_str (pa_cons pe_str (pa_cons pe_str (pa_cons pe_str (pa_cons pe_str (pa_cons pe_str pa_nil))))))))))))
      (pss_cons (ps_set (i := 1) sc_law_written.nd rfl (Or.inl rfl) (pe_op op_cat (pv 1) (pe_lst (pa_cons pe_str (pa_cons pe_str (pa_cons pe_str (pa_cons pe_str pa_nil)))))))
      (pss_one (ps_ret (pe_ix ix_list (pv 1) (pe_op op_mod (pe_callTy call_int1 (by rfl) T.n_int (by decide +kernel) (pa_cons (pv 0) pa_nil)) pe_int) (fun _ _ => rfl)))))))), ?_⟩
    refine ⟨by show 15 ≤ sizeLine; decide, fun l1 hl1 => ⟨_, rfl, by show 10 ≤ sizeLine; decide, fun a2 ha2 => ?_⟩⟩
    have s1 := same_new (o := .lst (sv W1)) hl1
    have s2 := same_new (o := .lst (sv W2)) ha2
    refine ⟨l1, a2, sv W1, sv W2, rfl, rfl, s2 _ _ (upd_same (o := .lst (sv W1))), upd_same (o := .lst (sv W2)), by show 25 ≤ sizeLine; decide, fun l2 hl2 => ⟨_, rfl, by show 9 ≤ sizeLine; decide, fun a3 ha3 => ?_⟩⟩
    have s3 := same_new (o := .lst (sv W1 ++ sv W2)) hl2
    have s4 := same_new (o := .lst (sv W3)) ha3
    refine ⟨l2, a3, sv W1 ++ sv W2, sv W3, rfl, rfl, s4 _ _ upd_same, upd_same (o := .lst (sv W3)), by show 34 ≤ sizeLine; decide, fun l3 hl3 => ⟨_, rfl, by show 4 ≤ sizeLine; decide, fun a4 ha4 => ?_⟩⟩
    have s5 := same_new (o := .lst (sv W1 ++ sv W2 ++ sv W3)) hl3
    have s6 := same_new (o := .lst (sv W4)) ha4
    refine ⟨l3, a4, sv W1 ++ sv W2 ++ sv W3, sv W4, rfl, rfl, s6 _ _ upd_same, upd_same (o := .lst (sv W4)), by show 38 ≤ sizeLine; decide, fun l4 hl4 => ?_⟩
    have s7 := same_new (o := .lst (sv W1 ++ sv W2 ++ sv W3 ++ sv W4)) hl4
    have m0 := Int.emod_nonneg d (show (38 : Int) ≠ 0 by decide)
    have m1 := Int.emod_lt_of_pos d (show (0 : Int) < 38 by decide)
    obtain ⟨z, hz, ez⟩ := at_sv (ss := W1 ++ W2 ++ W3 ++ W4) m0 (by show d % 38 < 38; omega)
    exact ⟨_, rfl, _, rfl, .inl ⟨_, rfl, _, _, rfl, rfl, by show (0 : Int) < 38; decide, l4, sv (W1 ++ W2 ++ W3 ++ W4), _, _, rfl, rfl, SqL.of upd_same, ez, k z _ (((((s1.trans s2).trans s3).trans s4).trans s5).trans (s6.trans s7)) (W_len z hz)⟩⟩
end
end My
set_option maxRecDepth 100000
set_option maxHeartbeats 4000000
set_option exponentiation.threshold 10000
namespace My
open PySem L2
open C8 (pss_cut)
open My7 (Fm Sk La Pr showF showL joinSp sgn csgn opener closer pushes letter)
/-! ### an accepted form is well made -/
def nmO : List (Bool × List Fm) → Nat
  | [] => 0
  | x :: r => (My7.nmL x.2).length + nmO r
def nmS (s : Sk) : Nat := (My7.nmL s.base).length + nmO s.open_
def WfO : List (Bool × List Fm) → Prop
  | [] => True
  | x :: r => My7.WFL x.2 ∧ WfO r
def WfS (s : Sk) : Prop := My7.WFL s.base ∧ WfO s.open_
theorem WfS.put {s : Sk} {f : Fm} (h : WfS s) (hf : My7.WF f) : WfS (s.put f) ∧ nmS (s.put f) = nmS s + (My7.nmF f).length := by
  obtain ⟨base, op⟩ := s
  obtain ⟨h1, h2⟩ := h
  have one : My7.nmL [f] = My7.nmF f := List.append_nil _
  cases op with
  | nil =>
    refine ⟨⟨WFL_app.mpr ⟨h1, hf, trivial⟩, trivial⟩, ?_⟩
    show (My7.nmL (base ++ [f])).length + 0 = (My7.nmL base).length + 0 + _
    rw [nmL_app, List.length_append, one]; omega
  | cons a r =>
    obtain ⟨k, ps⟩ := a
    refine ⟨⟨h1, WFL_app.mpr ⟨h2.1, hf, trivial⟩, h2.2⟩, ?_⟩
    show (My7.nmL base).length + ((My7.nmL (ps ++ [f])).length + nmO r) = (My7.nmL base).length + ((My7.nmL ps).length + nmO r) + _
    rw [nmL_app, List.length_append, one]; omega
theorem WfS.pushes {s : Sk} (h : WfS s) : ∀ (o : List Nat), WfS (pushes s o) ∧ nmS (pushes s o) = nmS s := by
  intro o
  induction o generalizing s with
  | nil => exact ⟨h, rfl⟩
  | cons c r ih =>
    have h1 : WfS (s.push c) := ⟨h.1, trivial, h.2⟩
    have e : nmS (s.push c) = nmS s := by
      show (My7.nmL s.base).length + (0 + nmO s.open_) = _
      rw [Nat.zero_add]; rfl
    obtain ⟨a, b⟩ := ih h1
    exact ⟨a, b.trans e⟩
theorem WfS.close {s t : Sk} {c : Nat} (h : WfS s) (e : s.close c = some t) : WfS t ∧ nmS t = nmS s := by
  obtain ⟨base, op⟩ := s
  cases op with
  | nil => cases e
  | cons a r =>
    obtain ⟨k, ps⟩ := a
    rw [close_eq] at e
    by_cases hc : k = (c == 93) ∧ (if k then 3 else 2) ≤ ps.length
    · rw [if_pos hc] at e
      cases e
      have hb : WfS ⟨base, r⟩ := ⟨h.1, h.2.2⟩
      obtain ⟨p1, p2⟩ := hb.put (f := .node k ps) ⟨hc.2, h.2.1⟩
      refine ⟨p1, p2.trans ?_⟩
      show (My7.nmL base).length + nmO r + (My7.nmL ps).length = (My7.nmL base).length + ((My7.nmL ps).length + nmO r)
      omega
    · rw [if_neg hc] at e; cases e
theorem WfS.closes : ∀ (c : List Nat) {s t : Sk}, WfS s → Pr.closes s c = some t → WfS t ∧ nmS t = nmS s
  | [], _, _, h, e => by cases e; exact ⟨h, rfl⟩
  | x :: r, s, t, h, e => by
    have e : (s.close x).bind (fun u => Pr.closes u r) = some t := e
    cases e1 : s.close x with
    | none => rw [e1] at e; cases e
    | some u =>
      rw [e1] at e
      obtain ⟨a, b⟩ := h.close e1
      obtain ⟨a2, b2⟩ := WfS.closes r a e
      exact ⟨a2, b2.trans b⟩
structure PrOk (s : Pr) : Prop where
  wf : WfS s.sk
  nm : nmS s.sk = s.names.length
  n12 : s.names.length ≤ 12
theorem PrOk.word {s t : Pr} {x : List Nat} (h : PrOk s) (e : s.word x = some t) : PrOk t := by
  unfold My7.Pr.word at e
  generalize hp : My7.parts x = p at e
  obtain ⟨o, z, c⟩ := p
  dsimp only at e
  by_cases hc : My7.isName z = true ∧ z ∉ s.names ∧ s.names.length ≠ 12
  · rw [if_pos hc] at e
    cases e1 : Pr.closes ((My7.pushes s.sk o).put (.name z)) c with
    | none => rw [e1] at e; cases e
    | some u =>
      rw [e1] at e
      cases e
      have hz := hc.1
      unfold My7.isName at hz
      rw [Bool.and_eq_true, Bool.and_eq_true, decide_eq_true_iff, decide_eq_true_iff] at hz
      obtain ⟨a1, b1⟩ := h.wf.pushes o
      obtain ⟨a2, b2⟩ := a1.put (f := .name z) ⟨fun e => by rw [e] at hz; simp at hz, hz.2.2⟩
      obtain ⟨a3, b3⟩ := WfS.closes c a2 e1
      have := h.n12
      have hn := h.nm
      refine ⟨a3, ?_, ?_⟩
      · show nmS u = (s.names ++ [z]).length
        rw [b3, b2, b1, hn, List.length_append]; rfl
      · show (s.names ++ [z]).length ≤ 12
        rw [List.length_append, show [z].length = 1 from rfl]
        have := hc.2.2
        omega
  · rw [if_neg hc] at e; cases e
theorem PrOk.words : ∀ (ws : List (List Nat)) {s t : Pr}, PrOk s → s.words ws = some t → PrOk t
  | [], _, _, h, e => by cases e; exact h
  | x :: r, s, t, h, e => by
    have e : (s.word x).bind (fun u => u.words r) = some t := e
    cases e1 : s.word x with
    | none => rw [e1] at e; cases e
    | some u => rw [e1] at e; exact PrOk.words r (h.word e1) e
theorem pr0_ok : PrOk pr0 := ⟨⟨trivial, trivial⟩, rfl, Nat.zero_le _⟩
/-- what an accepted form is -/
structure Acc (f : Fm) (l : List Nat) : Prop where
  let_ : LetF f
  dep : dep f ≤ 12
  shows : showF f = l
theorem acc_of {f : Fm} {l : List Nat} (h : readP l = some f) : Acc f l := by
  unfold readP at h
  by_cases h0 : l = [40, 41]
  · rw [if_pos h0] at h
    cases h
    exact ⟨(fun z hz => nomatch hz), by decide, by rw [h0]; rfl⟩
  · rw [if_neg h0] at h
    have hs := My7.show_read (spl32 l) (spl_ne l []) h
    rw [join32] at hs
    cases ew : pr0.words (spl32 l) with
    | none => rw [ew] at h; cases h
    | some t =>
      rw [ew] at h
      have ok := PrOk.words _ pr0_ok ew
      have h : My7.one t.sk = some f := h
      unfold My7.one at h
      split at h
      · rename_i g h1 h2
        cases h
        have wf : My7.WF f := by have := ok.wf.1; rw [h2] at this; exact this.1
        have hn : (My7.nmF f).length ≤ 12 := by
          have h3 := ok.nm
          unfold nmS at h3
          rw [h1, h2] at h3
          have h4 : (My7.nmL [f]).length = (My7.nmF f).length := congrArg List.length (List.append_nil _)
          have := ok.n12
          rw [h4] at h3
          have : nmO [] = 0 := rfl
          omega
        have := dep_nm f wf
        exact ⟨WF_let f wf, by omega, hs⟩
      · cases h
theorem read_same (l : List Nat) : readL l = readP l := by
  unfold readL readP
  by_cases h0 : l = [40, 41]
  · rw [if_pos h0, if_pos h0]
  · rw [if_neg h0, if_neg h0]
    have := My7.same_read (spl32 l) (spl_ne l []) (spl_no l [] (fun z => nomatch z))
    rw [join32] at this
    exact this
section
variable {P : Program} {w : World} {K : PySem.W.Frag} {mg : Str → Option Value} {base : Heap} {A : Ad}
theorem Fo.some {H : Hp} {v : V} {f : Fm} (h : Fo H v f) : v ≠ .non := fun e => by subst e; cases h
def spAns : Sp := fun vs H Q _ => ∃ l, vs = [.str (Tx l)] ∧ l.length ≤ 400000 ∧ ∀ H', Same H H' → Q (.bl true) H'
theorem ok_ans (T : Txt P w K mg A) : FnOk P w K mg base CX0 20 A.a_law_answers A.d_law_answers ["text"] spAns := by
  have GX_read_form := ok_readX (P := P) (w := w) (base := base) T
  have G_law_described := ok_descr (P := P) (w := w) (base := base) T
  have G_form_text := ok_form_text (P := P) (w := w) (base := base) T 12
  refine T.F_law_answers.ok sc_law_answers (fun vs H Q E h => ?_) (fun cdv A' outer s H vs Q E hr h => ?_)
  · obtain ⟨X, rfl, _⟩ := h
    rfl
  · obtain ⟨l, rfl, hl, k⟩ := h
    refine ⟨_, (pss_cons (ps_set (i := 1) sc_law_answers.nd rfl (Or.inl rfl) (pe_call G_law_described (hr.mono (by decide)) rfl T.mg_law_described T.F_law_described.kp T.b_law_described .nil pass0 (pa_cons (pv 0) pa_nil)))
      (pss_cons (ps_set (i := 2) sc_law_answers.nd rfl (Or.inl rfl) pe_non)
      (pss_cons (ps_set (i := 3) sc_law_answers.nd rfl (Or.inl rfl) pe_non)
      (pss_cons (ps_set (i := 4) sc_law_answers.nd rfl (Or.inl rfl) (pe_lst pa_nil))
      (pss_cons (ps_try_as (i := 5) (Wout := fun _ _ _ _ => False) rfl rfl sc_law_answers.nd rfl rfl ⟨rfl, by decide, .inl T.mg_BadText⟩ takes0 (fun W pn xe tk _ => (pss_one (ps_set (i := 2) sc_law_answers.nd rfl (Or.inl rfl) (pe_callS GX_read_form (hr.mono (by decide)) rfl T.mg_read_form T.F_read_form.kp T.b_read_form (fun σ => passAt tk σ) (pa_cons (pv 0) pa_nil))))) (fun a oe cls d pn hz hf => (pss_cons (ps_set (i := 3) sc_law_answers.nd rfl (Or.inl rfl) (pe_xf T.xf_BadText T.xn_BadText_line hz hf (pv 5)))
      (pss_one (ps_set (i := 4) sc_law_answers.nd rfl (Or.inl rfl) (pe_lst (pa_cons (pe_callB (call_isExD hz hf) (by rfl) T.n_isinstance (by decide +kernel) (pa_cons (pv 5) (pa_cons (pe_glob (v := .ref A.C_RowsError) rfl T.mg_RowsError rfl) pa_nil))) (pa_cons (pe_callB (call_isExD hz hf) (by rfl) T.n_isinstance (by decide +kernel) (pa_cons (pv 5) (pa_cons (pe_bltn (v := .ty "ValueError") (by rfl) T.n_ValueError (by decide +kernel) rfl) pa_nil))) (pa_cons (pe_callB (call_isExD hz hf) (by rfl) T.n_isinstance (by decide +kernel) (pa_cons (pv 5) (pa_cons (pe_glob (v := .ref A.C_Unknown) rfl T.mg_Unknown rfl) pa_nil))) (pa_cons (pe_callB (call_isExD hz hf) (by rfl) T.n_isinstance (by decide +kernel) (pa_cons (pv 5) (pa_cons (pe_glob (v := .ref A.C_Impossible) rfl T.mg_Impossible rfl) pa_nil))) pa_nil))))))))))
      (pss_cons (ps_if (pt_cmpR op_notN (pv 1) pe_non (nomark _)) (pss_one (ps_ret (pe_and (pe_cmpR op_notN (pv 2) pe_non (nomark _)) (pe_and (pe_cmpR (op_eqD hr.units) (pv 2) (pv 1) (nomark _)) (pe_one (pe_cmpR op_eq (pe_call G_form_text (hr.mono (by decide)) rfl T.mg_form_text T.F_form_text.kp T.b_form_text .nil pass0 (pa_cons (pv 1) pa_nil)) (pv 0) (nomark _))))))) pss_nil)
      (pss_cons (ps_if (PW.pt (pw_or (pt_cmpR op_notN (pv 2) pe_non (nomark _)) (pw_or1 (pt_cmpR (op_neD hr.units) (pv 4) (pe_lst (pa_cons pe_bl (pa_cons pe_bl (pa_cons pe_bl (pa_cons pe_bl pa_nil))))) (nomark _))))) (pss_one (ps_ret pe_bl)) pss_nil)
      (pss_one (ps_ret (pe_and (pe_callB call_isi (by rfl) T.n_isinstance (by decide +kernel) (pa_cons (pv 3) (pa_cons (pe_bltn (v := .ty "int") (by rfl) T.n_int (by decide +kernel) rfl) pa_nil))) (pe_and (pe_not (pe_callB call_isi (by rfl) T.n_isinstance (by decide +kernel) (pa_cons (pv 3) (pa_cons (pe_bltn (v := .ty "bool") (by rfl) T.n_bool (by decide +kernel) rfl) pa_nil)))) (pe_one (pe_cmpR op_eq (pv 3) pe_int (nomark _)))))))))))))), ?_⟩
    have es := read_same l
    cases ep : readP l with
    | some f =>
      rw [ep] at es
      have ac := acc_of ep
      refine ⟨_, rfl, l, rfl, hl, (fun e => by rw [es] at e; cases e), fun f1 e1 v H1 s1 hv => ?_⟩
      rw [es] at e1
      cases e1
      refine ⟨by show 0 ≤ sizeLine; decide, fun q hq => ?_⟩
      have s2 := same_new (o := .lst []) hq
      have hv2 := hv.keep (Kt.of s2)
      have s2 := s1.trans s2
      generalize upd H1 q _ = H2 at s2 hv2 ⊢
      refine ⟨_, rfl, l, rfl, by omega, fun f2 e2 v2 H3 s3 hw => ?_, fun e2 => by rw [ep] at e2; cases e2⟩
      rw [ep] at e2
      cases e2
      have hv3 := hv2.keep (Kt.of s3)
      refine ⟨_, rfl, rfl, _, rfl, ?_⟩
      refine itNeN hv3.some ?_
      refine ⟨_, rfl, rfl, _, rfl, ?_⟩
      refine itNeN hw.some ?_
      refine ⟨_, rfl, _, rfl, dF f, dF f, hw.dp, hv3.dp, shaped_dF ac.let_ (Nat.le_trans ac.dep (by decide)), shaped_dF ac.let_ (Nat.le_trans ac.dep (by decide)), _, rfl, ?_⟩
      rw [eqv_dF ac.let_]
      refine iteT ⟨_, rfl, v, f, rfl, hv3, ac.dep, by rw [ac.shows]; omega, fun H4 s4 => ⟨_, rfl, rfl, ?_⟩⟩
      rw [ac.shows, decide_eq_true rfl]
      exact k _ ((s2.trans s3).trans s4)
    | none =>
      rw [ep] at es
      refine ⟨_, rfl, l, rfl, hl, fun e H1 s1 => ?_, (fun f e => by rw [es] at e; cases e)⟩
      refine ⟨by show 0 ≤ sizeLine; decide, fun q hq => ?_⟩
      have s2 := s1.trans (same_new (o := .lst []) hq)
      generalize upd H1 q _ = H2 at s2 ⊢
      refine ⟨_, rfl, l, rfl, by omega, (fun f2 e2 => by rw [ep] at e2; cases e2), fun _ d H6 s6 hd => ?_⟩
      refine ⟨true, exm_self T.bp_BadText T.ic_BadText T.tp_BadText T.ss_BadText, fun _ e he => ?_, fun q => nomatch q⟩
      have hne : A.C_BadText ≠ A.C_Unknown ∧ A.C_BadText ≠ A.C_Impossible := by
        refine ⟨fun e => ?_, fun e => ?_⟩
        · have z := T.su_BadText_Unknown
          rw [← e, T.ss_BadText] at z; cases z
        · have z := T.su_BadText_Impossible
          rw [← e, T.ss_BadText] at z; cases z
      have k1 : PySem.W.kitOne K (.ref A.C_BadText) (.ref A.C_RowsError) = some true := kit_own T.ic_RowsError T.tp_RowsError T.su_BadText_RowsError (.inr rfl)
      have k2 : PySem.W.kitOne K (.ref A.C_BadText) (.type "ValueError") = some true := kit_ownT (by decide +kernel) T.sv_BadText
      have k3 : PySem.W.kitOne K (.ref A.C_BadText) (.ref A.C_Unknown) = some false := kit_own T.ic_Unknown T.tp_Unknown T.su_BadText_Unknown (.inl hne.1)
      have k4 : PySem.W.kitOne K (.ref A.C_BadText) (.ref A.C_Impossible) = some false := kit_own T.ic_Impossible T.tp_Impossible T.su_BadText_Impossible (.inl hne.2)
      have s16 := s2.trans s6
      refine ⟨_, rfl, rfl, rfl, d, _, _, rfl, hd, rfl, ?_⟩
      refine ⟨_, rfl, _, _, _, rfl, rfl, hd, T.ec_BadText, _, _, true, rfl, fun _ h => h, k1, ?_⟩
      refine ⟨_, rfl, _, _, _, rfl, rfl, hd, T.ec_BadText, _, _, true, rfl, fun _ h => h, k2, ?_⟩
      refine ⟨_, rfl, _, _, _, rfl, rfl, hd, T.ec_BadText, _, _, false, rfl, fun _ h => h, k3, ?_⟩
      refine ⟨_, rfl, _, _, _, rfl, rfl, hd, T.ec_BadText, _, _, false, rfl, fun _ h => h, k4, ?_⟩
      refine ⟨by show 4 ≤ sizeLine; decide, fun l1 hl1 => ?_⟩
      refine ⟨_, rfl, rfl, _, rfl, itNe rfl ?_⟩
      refine ⟨_, rfl, rfl, _, rfl, itNe rfl ?_⟩
      refine ⟨_, rfl, by show 4 ≤ sizeLine; decide, fun l2 hl2 => ?_⟩
      have h12 := same_new (o := .lst [V.bl true, .bl true, .bl false, .bl false]) hl2 _ _ (upd_same (H := H6) (a := l1) (o := .lst [V.bl true, .bl true, .bl false, .bl false]))
      refine ⟨.list ([true, true, false, false].map PyData.bool), .list ([true, true, false, false].map PyData.bool), .lst (xs := [true, true, false, false].map V.bl) (SqL.of h12) (dpAll_bl _), .lst (xs := [true, true, false, false].map V.bl) (SqL.of upd_same) (dpAll_bl _), by decide +kernel, by decide +kernel, ?_⟩
      refine ⟨_, rfl, ifF (by decide +kernel) ?_⟩
      have s7 : Same H6 (upd (upd H6 l1 (.lst [V.bl true, .bl true, .bl false, .bl false])) l2 (.lst [V.bl true, .bl true, .bl false, .bl false])) := (same_new hl1).trans (same_new hl2)
      refine ⟨_, rfl, _, _, _, _, true, rfl, .ty _, .base (.int _), kit_ty (by decide +kernel), true, rfl, ?_⟩
      refine iteT ?_
      refine ⟨_, rfl, _, _, _, _, false, rfl, .ty _, .base (.int _), kit_ty (by decide +kernel), false, rfl, true, rfl, iteT ?_⟩
      refine ⟨_, rfl, rfl, ?_⟩
      show Q (.bl (decide (V.int 0 = V.int 0))) _
      rw [decide_eq_true rfl]
      exact k _ (s16.trans s7)
end
end My
set_option maxRecDepth 100000
set_option maxHeartbeats 4000000
set_option exponentiation.threshold 10000
namespace My
open PySem L2
open C8 (pss_cut)
open My7 (Fm Sk La Pr showF showL joinSp sgn csgn opener closer pushes letter)
theorem cutV_nm (xs : List V) (n m : Nat) : cutV xs (some (n : Int)) (some ((n + m : Nat) : Int)) = (xs.drop n).take m := by
  unfold cutV
  rw [HT.sIx_nat, HT.sIx_nat]
  rcases Nat.le_total n xs.length with h | h
  · rw [Nat.min_eq_left h]
    rcases Nat.le_total (n + m) xs.length with h2 | h2
    · rw [Nat.min_eq_left h2, Nat.add_sub_cancel_left]
    · rw [Nat.min_eq_right h2, List.take_of_length_le (by rw [List.length_drop]; exact Nat.le_refl _), List.take_of_length_le (by rw [List.length_drop]; omega)]
  · rw [Nat.min_eq_right h, List.drop_of_length_le (Nat.le_refl _), List.drop_of_length_le h, List.take_nil, List.take_nil]
theorem cutV_tk (xs : List V) (n : Nat) : cutV xs none (some (n : Int)) = xs.take n := by
  unfold cutV
  rw [HT.sIx_none, HT.sIx_nat, List.drop_zero, Nat.sub_zero]
  rcases Nat.le_total n xs.length with h | h
  · rw [Nat.min_eq_left h]
  · rw [Nat.min_eq_right h, List.take_of_length_le (Nat.le_refl _), List.take_of_length_le h]
theorem cutV_dp (xs : List V) (n : Nat) : cutV xs (some (n : Int)) none = xs.drop n := by
  unfold cutV
  rw [HT.sIx_none, HT.sIx_nat]
  rw [List.take_of_length_le (by rw [List.length_drop]; exact Nat.le_refl _)]
  rcases Nat.le_total n xs.length with h | h
  · rw [Nat.min_eq_left h]
  · rw [Nat.min_eq_right h, List.drop_of_length_le (Nat.le_refl _), List.drop_of_length_le h]
/-- the parts stand for these names -/
structure Pt (H : Hp) (vs : List V) (ps : List Fm) (nm : List (List Nat)) : Prop where
  fo : FoL H vs ps
  wf : My7.WFL ps
  nm : My7.nmL ps = nm
theorem Pt.keep {H H' : Hp} {vs : List V} {ps : List Fm} {nm : List (List Nat)} (h : Pt H vs ps nm) (e : Same H H') : Pt H' vs ps nm := ⟨h.fo.keep (Kt.of e), h.wf, h.nm⟩
theorem Pt.len {H : Hp} {vs : List V} {ps : List Fm} {nm : List (List Nat)} (h : Pt H vs ps nm) : vs.length ≤ nm.length := by
  have := depL_nm ps h.wf
  rw [h.nm] at this
  rw [h.fo.len]
  omega
theorem WFL_take : ∀ {ps : List Fm} (n : Nat), My7.WFL ps → My7.WFL (ps.take n) ∧ My7.WFL (ps.drop n)
  | ps, n, h => by
    rw [← List.take_append_drop n ps] at h
    exact WFL_app.mp h
theorem pt_names {H : Hp} {ns : List Str} (g : ∀ z ∈ ns, Good z) : Pt H (sv ns) (ns.map fun z => Fm.name (TL.tl z)) (ns.map TL.tl) := by
  induction ns with
  | nil => exact ⟨.nil, trivial, rfl⟩
  | cons z r ih =>
    obtain ⟨a, b, c⟩ := ih fun x hx => g x (List.mem_cons_of_mem _ hx)
    have gz := g z List.mem_cons_self
    refine ⟨.cons ?_ a, ⟨⟨fun e => ?_, ?_⟩, b⟩, ?_⟩
    · have : Fo H (.str (Tx (TL.tl z))) (.name (TL.tl z)) := .name _
      rw [Tx_tl] at this
      exact this
    · have := gz.pos
      rw [TL.len_tl, e] at this
      cases this
    · rw [List.all_eq_true]
      exact fun c hc => decide_eq_true (gz.let_ c hc)
    · show [TL.tl z] ++ My7.nmL _ = _
      rw [c]; rfl
/-- neighbours become a piece -/
theorem Pt.group {H : Hp} {vs : List V} {ps : List Fm} {nm : List (List Nat)} (h : Pt H vs ps nm) {at_ w : Nat} {k : Bool} {t : Addr} (hk : (if k then 3 else 2) ≤ ((vs.drop at_).take w).length) (ht : H t = some (.tup (.str (kd k) :: (vs.drop at_).take w))) :
    Pt H (vs.take at_ ++ [.ref t] ++ vs.drop (at_ + w)) (ps.take at_ ++ [.node k ((ps.drop at_).take w)] ++ ps.drop (at_ + w)) nm := by
  have hg := (h.fo.drop at_).take w
  have lg := hg.len
  have w1 := WFL_take at_ h.wf
  have w2 := WFL_take w w1.2
  have w3 : My7.WFL (ps.drop (at_ + w)) := by rw [← List.drop_drop]; exact w2.2
  have hne : (ps.drop at_).take w ≠ [] := fun e => by
    rw [lg, e] at hk
    have := two_le hk
    simp at this
  refine ⟨((h.fo.take at_).app (.one (.node ht hne hg))).app (h.fo.drop _), WFL_app.mpr ⟨WFL_app.mpr ⟨w1.1, ⟨by rw [← lg]; exact hk, w2.1⟩, trivial⟩, w3⟩, ?_⟩
  rw [nmL_app, nmL_app]
  have e : My7.nmL [.node k ((ps.drop at_).take w)] = My7.nmL ((ps.drop at_).take w) := List.append_nil _
  rw [e, List.append_assoc, ← List.drop_drop, ← nmL_app, ← nmL_app, List.take_append_drop, List.take_append_drop]
  exact h.nm
section
variable {P : Program} {w : World} {K : PySem.W.Frag} {mg : Str → Option Value} {base : Heap} {A : Ad}
/-- a drawn form of these names -/
def FormOf (f : Fm) (nm : List (List Nat)) : Prop := (My7.WF f ∧ My7.nmF f = nm) ∨ (nm = [] ∧ f = .node false [])
def spForm (K : PySem.W.Frag) : Sp := fun vs H Q _ => ∃ (o p : Addr) (ns : List Str) (ds : List Int) (st n : Int), vs = [.ref o, .ref p, .int st, .int n] ∧ SqL K H o (sv ns) ∧ (∀ z ∈ ns, Good z) ∧ ns.length ≤ 12 ∧ SqL K H p (ds.map V.int) ∧ 0 ≤ st ∧ 0 ≤ n ∧ n ≤ 1000 ∧ st + n < ds.length ∧
  ∀ v f H', Same H H' → Fo H' v f → FormOf f (ns.map TL.tl) → Q v H'
theorem ok_form (T : Txt P w K mg A) : FnOk P w K mg base CX0 1 A.a_law_form A.d_law_form ["order", "pool", "start", "steps"] (spForm K) := by
  refine T.F_law_form.ok sc_law_form (fun vs H Q E h => ?_) (fun cdv A' outer s H vs Q E hr h => ?_)
  · obtain ⟨o, p, ns, ds, st, n, rfl, _⟩ := h
    rfl
  · obtain ⟨o, p, ns, ds, st, n, rfl, hO, g, hn, hS, s0, n0, n1, sn, k⟩ := h
    refine ⟨_, (pss_cons (ps_set (i := 4) sc_law_form.nd rfl (Or.inl rfl) (pe_callTy call_list_of (by rfl) T.n_list (by decide +kernel) (pa_cons (pv 0) pa_nil)))
      (pss_cons (ps_for PassesOwn.never rfl (pi_range1 (by rfl) T.n_range (pa_cons (pv 3) pa_nil)) (pg_name (i := 5) sc_law_form.nd rfl (Or.inl rfl))
        (pss_cons (ps_set (i := 6) sc_law_form.nd rfl (Or.inl rfl) (pe_callTy call_int1 (by rfl) T.n_int (by decide +kernel) (pa_cons (pe_ix ix_list (pv 1) (pe_op op_add (pv 2) (pv 5)) (fun _ _ => rfl)) pa_nil)))
      (pss_cons (ps_set (i := 7) sc_law_form.nd rfl (Or.inl rfl) (pe_callB call_len_seq (by rfl) T.n_len (by decide +kernel) (pa_cons (pv 4) pa_nil)))
      (pss_one (ps_if (pt_cmpR op_gt (pv 7) pe_int (nomark _)) (pss_cons (ps_set (i := 8) sc_law_form.nd rfl (Or.inl rfl) (pe_op op_mod (pe_callTy call_int1 (by rfl) T.n_int (by decide +kernel) (pa_cons (pv 6) pa_nil)) (pe_op op_sub (pv 7) pe_int)))
      (pss_cons (ps_set (i := 9) sc_law_form.nd rfl (Or.inl rfl) (pe_op op_add pe_int (pe_op op_mod (pe_callTy call_int1 (by rfl) T.n_int (by decide +kernel) (pa_cons (pe_op op_fdiv (pv 6) pe_int) pa_nil)) (pe_op op_sub (pv 7) pe_int))))
      (pss_cons (ps_set (i := 10) sc_law_form.nd rfl (Or.inl rfl) (pe_slice sl_list (pv 4) (po_some (pv 8)) (po_some (pe_op op_add (pv 8) (pv 9)))))
      (pss_cons (ps_set (i := 11) sc_law_form.nd rfl (Or.inl rfl) pe_str)
      (pss_cut (ps_if (PW.pt (pw_and (pt_cmpR op_gt (pe_callB call_len_seq (by rfl) T.n_len (by decide +kernel) (pa_cons (pv 10) pa_nil)) pe_int (nomark _)) (pw_and1 (pt_cmpR op_eq (pe_op op_mod (pe_callTy call_int1 (by rfl) T.n_int (by decide +kernel) (pa_cons (pe_op op_fdiv (pv 6) pe_int) pa_nil)) pe_int) pe_int (nomark _))))) (pss_one (ps_set (i := 11) sc_law_form.nd rfl (Or.inl rfl) pe_str)) pss_nil)
      (pss_one (ps_set (i := 4) sc_law_form.nd rfl (Or.inl rfl) (pe_op op_cat (pe_op op_cat (pe_slice sl_list (pv 4) po_none (po_some (pv 8))) (pe_lst (pa_cons (pe_callTy call_tuple_of (by rfl) T.n_tuple (by decide +kernel) (pa_cons (pe_op op_cat (pe_lst (pa_cons (pv 11) pa_nil)) (pv 10)) pa_nil)) pa_nil))) (pe_slice sl_list (pv 4) (po_some (pe_op op_add (pv 8) (pv 9))) po_none))))))))) pss_nil)))))
      (pss_cons (ps_if (pt_cmpR op_eq (pe_callB call_len_seq (by rfl) T.n_len (by decide +kernel) (pa_cons (pv 4) pa_nil)) pe_int (nomark _)) (pss_one (ps_ret (pe_tup pa_nil))) pss_nil)
      (pss_cons (ps_if (pt_cmpR op_eq (pe_callB call_len_seq (by rfl) T.n_len (by decide +kernel) (pa_cons (pv 4) pa_nil)) pe_int (nomark _)) (pss_one (ps_ret (pe_ix ix_list (pv 4) pe_int (fun _ _ => rfl)))) pss_nil)
      (pss_cons (ps_if (PW.pt (pw_and (pt_cmpR op_gt (pe_callB call_len_seq (by rfl) T.n_len (by decide +kernel) (pa_cons (pv 4) pa_nil)) pe_int (nomark _)) (pw_and1 (pt_cmpR op_eq (pe_op op_mod (pe_callTy call_int1 (by rfl) T.n_int (by decide +kernel) (pa_cons (pe_ix ix_list (pv 1) (pe_op op_add (pv 2) (pv 3)) (fun _ _ => rfl)) pa_nil)) pe_int) pe_int (nomark _))))) (pss_one (ps_ret (pe_callTy call_tuple_of (by rfl) T.n_tuple (by decide +kernel) (pa_cons (pe_op op_cat (pe_lst (pa_cons pe_str pa_nil)) (pv 4)) pa_nil)))) pss_nil)
      (pss_one (ps_ret (pe_callTy call_tuple_of (by rfl) T.n_tuple (by decide +kernel) (pa_cons (pe_op op_cat (pe_lst (pa_cons pe_str pa_nil)) (pv 4)) pa_nil))))))))), ?_⟩
    refine ⟨_, rfl, o, _, rfl, .inl hO, fun l hl => ?_⟩
    refine ⟨_, rfl, n, rfl, by omega, by omega, for_range (n := n.toNat) (fun j σ H' => ∃ (l : Addr) (vs : List V) (ps : List Fm) (u5 u6 u7 u8 u9 u10 u11 : Option V), σ = [some (.ref o), some (.ref p), some (.int st), some (.int n), some (.ref l), u5, u6, u7, u8, u9, u10, u11] ∧ Same H H' ∧ H' l = some (.lst vs) ∧ Pt H' vs ps (ns.map TL.tl))
      ⟨l, sv ns, _, none, none, none, none, none, none, none, rfl, same_new hl, upd_same, pt_names g⟩ ?_ ?_⟩
    · rintro j σ H3 hj ⟨l, vs, ps, u5, u6, u7, u8, u9, u10, u11, rfl, s3, hl3, pt⟩
      obtain ⟨x, hx, ex⟩ := atI_ok (xs := ds) (j := st + (0 + (j : Int))) (by omega) (by omega)
      refine ⟨_, rfl, _, rfl, _, rfl, _, _, rfl, rfl, _, _, _, _, rfl, rfl, s3.seq hS, ex, .inl ⟨_, rfl, ?_⟩⟩
      refine ⟨_, rfl, l, _, rfl, .inl (SqL.of hl3), _, rfl, _, _, rfl, rfl, _, rfl, ?_⟩
      have lv := pt.len
      rw [List.length_map] at lv
      by_cases h1 : 1 < vs.length
      · refine itY (by omega) ?_
        have lp : (0 : Int) < (vs.length : Int) - 1 := by omega
        refine ⟨_, rfl, .inl ⟨_, rfl, _, rfl, _, _, rfl, rfl, _, _, rfl, rfl, lp, ?_⟩⟩
        have a0 := Int.emod_nonneg x (show (vs.length : Int) - 1 ≠ 0 by omega)
        have a1 := Int.emod_lt_of_pos x lp
        dsimp only
        generalize x % ((vs.length : Int) - 1) = at_ at a0 a1 ⊢
        obtain ⟨a, rfl⟩ := Int.eq_ofNat_of_zero_le a0
        refine ⟨_, rfl, _, _, rfl, rfl, ⟨by decide, by decide⟩, .inl ⟨_, rfl, _, rfl, _, _, rfl, rfl, _, _, rfl, rfl, lp, _, _, rfl, rfl, ?_⟩⟩
        have b0 := Int.emod_nonneg (x / 13) (show (vs.length : Int) - 1 ≠ 0 by omega)
        have b1 := Int.emod_lt_of_pos (x / 13) lp
        dsimp only
        generalize hw : (2 : Int) + (x / 13) % ((vs.length : Int) - 1) = wd
        have w0 : 0 ≤ wd := by omega
        have w2 : 2 ≤ wd := by omega
        obtain ⟨m, rfl⟩ := Int.eq_ofNat_of_zero_le w0
        clear hw b0 b1
        refine ⟨_, rfl, _, rfl, _, rfl, _, rfl, _, rfl, _, _, rfl, rfl, _, rfl, l, _, rfl, SqL.of hl3, fun gr hgr => ?_⟩
        rw [show (a : Int) + (m : Int) = ((a + m : Nat) : Int) by omega, cutV_nm]
        have s4 := same_new (o := .lst ((vs.drop a).take m)) hgr
        have hg4 := upd_same (H := H3) (a := gr) (o := .lst ((vs.drop a).take m))
        have hl4 := s4 _ _ hl3
        have pt4 := pt.keep s4
        have s34 := s3.trans s4
        generalize upd H3 gr _ = H4 at s4 hg4 hl4 pt4 s34 ⊢
        have glen : 2 ≤ ((vs.drop a).take m).length ∧ ((vs.drop a).take m).length ≤ vs.length := by
          rw [List.length_take, List.length_drop]; omega
        refine ⟨fun σ H' => H' = H4 ∧ ∃ b : Bool, (b = true → 3 ≤ ((vs.drop a).take m).length) ∧ σ = [some (.ref o), some (.ref p), some (.int st), some (.int n), some (.ref l), some (.int (0 + (j : Int))), some (.int x), some (.int (vs.length : Nat)), some (.int (a : Int)), some (.int (m : Int)), some (.ref gr), some (.str (kd b))], ?_, ?_⟩
        · refine ⟨_, rfl, gr, _, rfl, .inl (SqL.of hg4), _, _, rfl, rfl, _, rfl, ?_⟩
          by_cases h2 : 2 < ((vs.drop a).take m).length
          · refine itY (by omega) ⟨_, rfl, _, _, rfl, rfl, ⟨by decide, by decide⟩, .inl ⟨_, rfl, _, _, rfl, rfl, by show (0 : Int) < 2; decide, rfl, _, rfl, ite2 (fun hb => ?_) (fun hb => ?_)⟩⟩
            · exact ⟨rfl, true, fun _ => h2, rfl⟩
            · exact ⟨rfl, false, (fun e => nomatch e), rfl⟩
          · refine itN (by omega) (iteF ?_)
            exact ⟨rfl, false, (fun e => nomatch e), rfl⟩
        · rintro σ H' ⟨rfl, b, hb3, rfl⟩
          refine ⟨_, rfl, _, rfl, _, rfl, l, _, rfl, SqL.of hl4, fun c1 hc1 => ?_⟩
          rw [cutV_tk]
          have lg := hg4
          generalize hgv : (vs.drop a).take m = gv at hg4 glen hb3
          have hk : (if b then 3 else 2) ≤ ((vs.drop a).take m).length := by
            rw [hgv]
            cases b
            · exact glen.1
            · exact hb3 rfl
          have big : 1000000 ≤ sizeLine := by decide
          have s5 := same_new (o := .lst (vs.take a)) hc1
          have hc5 := upd_same (H := H') (a := c1) (o := .lst (vs.take a))
          generalize upd H' c1 _ = H5 at s5 hc5 ⊢
          refine ⟨_, rfl, by show 1 ≤ sizeLine; decide, fun e1 he1 => ?_⟩
          have s6 := s5.trans (same_new (o := .lst [V.str (kd b)]) he1)
          have hc6 := same_new (o := .lst [V.str (kd b)]) he1 _ _ hc5
          have he6 := upd_same (H := H5) (a := e1) (o := .lst [V.str (kd b)])
          generalize upd H5 e1 _ = H6 at s6 hc6 he6 ⊢
          refine ⟨_, rfl, e1, gr, _, _, rfl, rfl, he6, s6 _ _ hg4, by rw [show [V.str (kd b)].length = 1 from rfl]; omega, fun e2 he2 => ?_⟩
          have s7 := s6.trans (same_new (o := .lst ([V.str (kd b)] ++ gv)) he2)
          have hc7 := same_new (o := .lst ([V.str (kd b)] ++ gv)) he2 _ _ hc6
          have he7 := upd_same (H := H6) (a := e2) (o := .lst ([V.str (kd b)] ++ gv))
          generalize upd H6 e2 _ = H7 at s7 hc7 he7 ⊢
          refine ⟨e2, _, rfl, .inl ⟨SqL.of he7, fun t ht => ?_⟩⟩
          have s8 := s7.trans (same_new (o := .tup ([V.str (kd b)] ++ gv)) ht)
          have hc8 := same_new (o := .tup ([V.str (kd b)] ++ gv)) ht _ _ hc7
          have ht8 := upd_same (H := H7) (a := t) (o := .tup ([V.str (kd b)] ++ gv))
          generalize upd H7 t _ = H8 at s8 hc8 ht8 ⊢
          refine ⟨by show 1 ≤ sizeLine; decide, fun f1 hf1 => ?_⟩
          have s9 := s8.trans (same_new (o := .lst [V.ref t]) hf1)
          have hc9 := same_new (o := .lst [V.ref t]) hf1 _ _ hc8
          have ht9 := same_new (o := .lst [V.ref t]) hf1 _ _ ht8
          have hf9 := upd_same (H := H8) (a := f1) (o := .lst [V.ref t])
          generalize upd H8 f1 _ = H9 at s9 hc9 ht9 hf9 ⊢
          have lt : (vs.take a).length ≤ vs.length := by rw [List.length_take]; omega
          have ld : (vs.drop (a + m)).length ≤ vs.length := by rw [List.length_drop]; omega
          refine ⟨c1, f1, _, _, rfl, rfl, hc9, hf9, by rw [show [V.ref t].length = 1 from rfl]; omega, fun g1 hg1 => ?_⟩
          have s10 := s9.trans (same_new (o := .lst (vs.take a ++ [V.ref t])) hg1)
          have ht10 := same_new (o := .lst (vs.take a ++ [V.ref t])) hg1 _ _ ht9
          have hg10 := upd_same (H := H9) (a := g1) (o := .lst (vs.take a ++ [V.ref t]))
          generalize upd H9 g1 _ = H10 at s10 ht10 hg10 ⊢
          refine ⟨_, rfl, _, rfl, _, rfl, _, _, rfl, rfl, _, rfl, l, _, rfl, SqL.of (s10 _ _ hl4), fun h1 hh1 => ?_⟩
          rw [show (a : Int) + (m : Int) = ((a + m : Nat) : Int) by omega, cutV_dp]
          have s11 := s10.trans (same_new (o := .lst (vs.drop (a + m))) hh1)
          have ht11 := same_new (o := .lst (vs.drop (a + m))) hh1 _ _ ht10
          have hg11 := same_new (o := .lst (vs.drop (a + m))) hh1 _ _ hg10
          have hh11 := upd_same (H := H10) (a := h1) (o := .lst (vs.drop (a + m)))
          generalize upd H10 h1 _ = H11 at s11 ht11 hg11 hh11 ⊢
          refine ⟨g1, h1, _, _, rfl, rfl, hg11, hh11, by rw [List.length_append, show [V.ref t].length = 1 from rfl]; omega, fun l' hl' => ?_⟩
          have s12 := s11.trans (same_new (o := .lst (vs.take a ++ [V.ref t] ++ vs.drop (a + m))) hl')
          have ht12 := same_new (o := .lst (vs.take a ++ [V.ref t] ++ vs.drop (a + m))) hl' _ _ ht11
          refine ⟨l', _, _, _, _, _, _, _, _, _, rfl, s34.trans s12, upd_same, (pt4.keep s12).group (k := b) hk (by rw [hgv]; exact ht12)⟩
      · refine itN (by omega) ?_
        exact ⟨l, vs, ps, _, _, _, _, _, _, _, rfl, s3, hl3, pt⟩
    · rintro σ H3 ⟨l, vs, ps, u5, u6, u7, u8, u9, u10, u11, rfl, s3, hl3, pt⟩
      have lv := pt.len
      rw [List.length_map] at lv
      have big : 1000000 ≤ sizeLine := by decide
      refine ⟨_, rfl, l, _, rfl, .inl (SqL.of hl3), rfl, _, rfl, ?_⟩
      cases vs with
      | nil =>
        cases ps with
        | cons f r => cases pt.fo
        | nil =>
        refine itY rfl ⟨by show 0 ≤ sizeLine; decide, fun t ht => ?_⟩
        exact k _ _ _ (s3.trans (same_new ht)) (.nil upd_same) (.inr ⟨pt.nm.symm, rfl⟩)
      | cons v r =>
        refine itN (fun e => by have := V.int.inj e; rw [List.length_cons] at this; omega) ?_
        refine ⟨_, rfl, l, _, rfl, .inl (SqL.of hl3), rfl, _, rfl, ?_⟩
        obtain ⟨f, ps, rfl⟩ : ∃ f qs, ps = f :: qs := by
          cases ps with
          | nil => cases pt.fo
          | cons f qs => exact ⟨f, qs, rfl⟩
        cases r with
        | nil =>
          cases ps with
          | cons g r => have := pt.fo; cases this with | cons a b => cases b
          | nil =>
          refine itY rfl ⟨_, rfl, l, _, 0, _, rfl, rfl, SqL.of hl3, at_zero, ?_⟩
          have hv : Fo H3 v f := by have := pt.fo; cases this with | cons a b => exact a
          exact k _ _ _ s3 hv (.inl ⟨pt.wf.1, (List.append_nil _).symm.trans pt.nm⟩)
        | cons v2 r =>
          refine itN (fun e => by have := V.int.inj e; rw [List.length_cons, List.length_cons] at this; omega) ?_
          obtain ⟨x, hx, ex⟩ := atI_ok (xs := ds) (j := st + n) (by omega) (by omega)
          have node : ∀ (b : Bool), (if b then 3 else 2) ≤ (v :: v2 :: r).length → ∀ H4 t, Same H3 H4 → H4 t = none → Q (.ref t) (upd H4 t (.tup (.str (kd b) :: (v :: v2 :: r)))) := fun b hb H4 t s4 ht => by
            refine k _ (.node b (f :: ps)) _ ((s3.trans s4).trans (same_new ht)) (.node upd_same (List.cons_ne_nil _ _) (pt.fo.keep (Kt.of (s4.trans (same_new ht))))) (.inl ⟨⟨by rw [← pt.fo.len]; exact hb, pt.wf⟩, pt.nm⟩)
          have ret : ∀ (b : Bool) (z : Str), z = kd b → (if b then 3 else 2) ≤ (v :: v2 :: r).length → [V.str z].length ≤ sizeLine ∧ ∀ e1, H3 e1 = none → ∀ e2, upd H3 e1 (.lst [V.str z]) e2 = none →
              ∀ t, upd (upd H3 e1 (.lst [V.str z])) e2 (.lst ([V.str z] ++ (v :: v2 :: r))) t = none → Q (.ref t) (upd (upd (upd H3 e1 (.lst [V.str z])) e2 (.lst ([V.str z] ++ (v :: v2 :: r)))) t (.tup ([V.str z] ++ (v :: v2 :: r)))) := fun b z hz hb => by
            subst hz
            refine ⟨by show 1 ≤ sizeLine; decide, fun e1 he1 e2 he2 t ht => ?_⟩
            exact node b hb _ t ((same_new he1).trans (same_new he2)) ht
          have lsz : [V.str ("firm" : Str)].length + (v :: v2 :: r).length ≤ sizeLine := by
            show 1 + (v :: v2 :: r).length ≤ sizeLine; omega
          have lsz2 : [V.str ("loose" : Str)].length + (v :: v2 :: r).length ≤ sizeLine := lsz
          have loose := ret false "loose" rfl (by simp)
          refine ⟨_, rfl, l, _, rfl, .inl (SqL.of hl3), _, _, rfl, rfl, _, rfl, ?_⟩
          by_cases h2 : 2 < (v :: v2 :: r).length
          · have firm := ret true "firm" rfl (by simp at h2 ⊢; omega)
            refine itY (by omega) ⟨_, rfl, _, rfl, _, rfl, _, _, rfl, rfl, _, _, _, _, rfl, rfl, s3.seq hS, ex, .inl ⟨_, rfl, _, _, rfl, rfl, by show (0 : Int) < 2; decide, rfl, _, rfl, ite2 (fun hb => ?_) (fun hb => ?_)⟩⟩
            · exact ⟨firm.1, fun e1 he1 => ⟨_, rfl, e1, l, _, _, rfl, rfl, upd_same, same_new he1 _ _ hl3, lsz, fun e2 he2 => ⟨e2, _, rfl, .inl ⟨SqL.of upd_same, fun t ht => firm.2 e1 he1 e2 he2 t ht⟩⟩⟩⟩
            · exact ⟨loose.1, fun e1 he1 => ⟨_, rfl, e1, l, _, _, rfl, rfl, upd_same, same_new he1 _ _ hl3, lsz2, fun e2 he2 => ⟨e2, _, rfl, .inl ⟨SqL.of upd_same, fun t ht => loose.2 e1 he1 e2 he2 t ht⟩⟩⟩⟩
          · refine itN (by omega) (iteF ?_)
            exact ⟨loose.1, fun e1 he1 => ⟨_, rfl, e1, l, _, _, rfl, rfl, upd_same, same_new he1 _ _ hl3, lsz2, fun e2 he2 => ⟨e2, _, rfl, .inl ⟨SqL.of upd_same, fun t ht => loose.2 e1 he1 e2 he2 t ht⟩⟩⟩⟩
end
end My
set_option maxRecDepth 100000
set_option maxHeartbeats 4000000
set_option exponentiation.threshold 10000
namespace My
open PySem L2
open C8 (pss_cut)
open My7 (Fm Sk La Pr showF showL joinSp sgn csgn opener closer pushes letter)
def nums13 : List Int := [3, 4, 5, 2, 8, 6, 9, 10, 1, 7, 0, 12, 11]
theorem nums13_le : ∀ v ∈ nums13, 0 ≤ v ∧ v ≤ 12 := by decide
theorem none_of {H H' : Hp} (s : Same H H') {a : Addr} (h : H' a = none) : H a = none := by
  cases e : H a with
  | none => rfl
  | some o => rw [s _ _ e] at h; cases h
theorem nodup_set {cs : List Str} {n : Nat} {z : Str} (nd : cs.Nodup) (hz : z ∉ cs) : (cs.set n z).Nodup := by
  induction cs generalizing n with
  | nil => exact nd
  | cons a t ih =>
    have nd' := List.nodup_cons.mp nd
    have hz' : z ∉ t := fun h => hz (List.mem_cons_of_mem _ h)
    cases n with
    | zero => exact List.nodup_cons.mpr ⟨hz', nd'.2⟩
    | succ n =>
      refine List.nodup_cons.mpr ⟨fun h => ?_, ih nd'.2 hz'⟩
      rcases List.mem_or_eq_of_mem_set h with h | h
      · exact nd'.1 h
      · exact hz (by rw [← h]; exact List.mem_cons_self)
structure Cols (cs : List Str) : Prop where
  g : ∀ z ∈ cs, Good z
  nd : cs.Nodup
  n : cs.length ≤ 12
theorem Cols.set {cs : List Str} (co : Cols cs) {n : Nat} {z : Str} (g : Good z) (hz : z ∉ cs) : Cols (cs.set n z) :=
  ⟨fun x hx => by
    rcases List.mem_or_eq_of_mem_set hx with h | h
    · exact co.g x h
    · rw [h]; exact g, nodup_set co.nd hz, by rw [List.length_set]; exact co.n⟩
theorem sv_snoc (ss : List Str) (z : Str) : sv ss ++ [V.str z] = sv (ss ++ [z]) := (List.map_append (f := V.str) (l₁ := ss) (l₂ := [z])).symm
theorem ixN_of {n j : Nat} (hj : j < n) : ixN n (j : Int) = some j := by
  unfold ixN; rw [if_pos (by omega), if_pos (by omega)]; simp
theorem good_lf : ∀ j : Fin 2, ∃ z : Str, atI [V.str ("loose" : Str), V.str "firm"] ((j.val : Nat) : Int) = some (V.str z) ∧ Good z := by
  intro j
  match j with
  | 0 => exact ⟨"loose", rfl, by decide, by decide, by unfold Letters; decide⟩
  | 1 => exact ⟨"firm", rfl, by decide, by decide, by unfold Letters; decide⟩
theorem joinSp_le : ∀ l : List (List Nat), l ≠ [] → (joinSp l).length + 1 ≤ (l.map List.length).sum + l.length
  | [], h => absurd rfl h
  | [p], _ => by simp [My7.joinSp]
  | p :: q :: r, _ => by
    have := joinSp_le (q :: r) (List.cons_ne_nil _ _)
    have e : (joinSp (p :: q :: r)).length = p.length + ((joinSp (q :: r)).length + 1) := by
      show (p ++ 32 :: joinSp (q :: r)).length = _
      rw [List.length_append, List.length_cons]
    rw [e, List.map_cons, List.sum_cons, List.length_cons]
    omega
def wtN (l : List (List Nat)) : Nat := (l.map fun z => z.length + 3).sum
theorem wtN_app (a b : List (List Nat)) : wtN (a ++ b) = wtN a + wtN b := by unfold wtN; rw [List.map_append, List.sum_append]
mutual
theorem show_wt : ∀ f : Fm, My7.WF f → (showF f).length + 3 ≤ wtN (My7.nmF f)
  | .name z, _ => by
    show z.length + 3 ≤ (z.length + 3) + 0
    omega
  | .node k ps, h => by
    have h2 := two_le h.1
    have := showL_wt ps h.2
    have hj := joinSp_le (showL ps) (fun e => by have := showL_len ps; rw [e] at this; simp at this; omega)
    rw [showL_len] at hj
    rw [node_len]
    show _ ≤ wtN (My7.nmL ps)
    omega
theorem showL_wt : ∀ ps : List Fm, My7.WFL ps → ((showL ps).map List.length).sum + 3 * ps.length ≤ wtN (My7.nmL ps)
  | [], _ => Nat.le_refl _
  | f :: r, h => by
    have a := show_wt f h.1
    have b := showL_wt r h.2
    show ((showF f).length + ((showL r).map List.length).sum) + 3 * (r.length + 1) ≤ wtN (My7.nmF f ++ My7.nmL r)
    rw [wtN_app]
    omega
end
theorem wtN_le {l : List (List Nat)} (h : ∀ z ∈ l, z.length ≤ 8) (hn : l.length ≤ 12) : wtN l ≤ 132 := by
  have : ∀ l : List (List Nat), (∀ z ∈ l, z.length ≤ 8) → wtN l ≤ 11 * l.length := by
    intro l
    induction l with
    | nil => intro _; exact Nat.le_refl _
    | cons z r ih =>
      intro h
      have h1 := h z List.mem_cons_self
      have h2 := ih fun x hx => h x (List.mem_cons_of_mem _ hx)
      show (z.length + 3) + wtN r ≤ 11 * (r.length + 1)
      omega
  have := this l h
  omega
theorem names_ok {cs : List Str} (co : Cols cs) : My7.namesOk (cs.map TL.tl) := by
  refine ⟨fun z hz => ?_, ?_, by rw [List.length_map]; exact co.n⟩
  · obtain ⟨x, hx, rfl⟩ := List.mem_map.mp hz
    rw [← TL.len_tl]
    exact (co.g x hx).le
  · rw [List.nodup_iff_pairwise_ne, List.pairwise_map]
    exact List.Pairwise.imp (fun h e => h (TL.ext_tl e)) (List.nodup_iff_pairwise_ne.mp co.nd)
/-- the law's form, read back -/
structure Back (f : Fm) : Prop where
  reads : readP (showF f) = some f
  len : (showF f).length ≤ 132
  acc : Acc f (showF f)
theorem back_of {f : Fm} {cs : List Str} (co : Cols cs) (h : FormOf f (cs.map TL.tl)) : Back f := by
  have ok := names_ok co
  rcases h with ⟨wf, e⟩ | ⟨e, rfl⟩
  · have hr := My7.read_show wf (by rw [e]; exact ok)
    have hp : readP (showF f) = some f := by
      rw [← read_same]
      unfold readL
      by_cases h0 : showF f = [40, 41]
      · rw [h0] at hr; cases hr
      · rw [if_neg h0]; exact hr
    have := show_wt f wf
    have := wtN_le ok.1 ok.2.2
    rw [← e] at this
    exact ⟨hp, by omega, acc_of hp⟩
  · exact ⟨rfl, by decide, acc_of rfl⟩
section
variable {P : Program} {w : World} {K : PySem.W.Frag} {mg : Str → Option Value} {base : Heap} {A : Ad}
def spAnsX : Sp := fun vs H Q _ => ∃ X : Str, vs = [.str X] ∧ X.length ≤ 400000 ∧ ∀ H', Same H H' → Q (.bl true) H'
theorem ok_ansX (T : Txt P w K mg A) : FnOk P w K mg base CX0 20 A.a_law_answers A.d_law_answers ["text"] spAnsX :=
  (ok_ans T).imp fun vs H Q E h => by
    obtain ⟨X, rfl, hX, k⟩ := h
    exact ⟨TL.tl X, by rw [Tx_tl], by rw [← TL.len_tl]; exact hX, k⟩
def spLaw (K : PySem.W.Frag) : Sp := fun vs H Q _ => ∃ (a : Addr) (ns : List Int), vs = [.ref a] ∧ SqL K H a (ns.map V.int) ∧ ns.length ≤ 63 ∧ ∀ H', Q (.bl true) H'
theorem ok_law (T : Txt P w K mg A) : FnOk P w K mg base CX0 40 A.a_law A.d_law ["script"] (spLaw K) := by
  have G_law_pool := ok_pool (P := P) (w := w) (base := base) T
  have G_law_word := ok_word (P := P) (w := w) (base := base) T
  have G_law_new := ok_new (P := P) (w := w) (base := base) T
  have G_law_form := ok_form (P := P) (w := w) (base := base) T
  have G_law_form_text := ok_law_form_text (P := P) (w := w) (base := base) T 12
  have G_form_text := ok_form_text (P := P) (w := w) (base := base) T 12
  have G_read_form := ok_read (P := P) (w := w) (base := base) T
  have G_law_edited := ok_edited (P := P) (w := w) (base := base) T
  have G_law_written := ok_written (P := P) (w := w) (base := base) T
  have G_law_answers := ok_ansX (P := P) (w := w) (base := base) T
  refine T.F_law.ok sc_law (fun vs H Q E h => ?_) (fun cdv A' outer s H vs Q E hr h => ?_)
  · obtain ⟨a, ns, rfl, _⟩ := h
    rfl
  · obtain ⟨sa, ns, rfl, hS, hlen, k⟩ := h
    refine ⟨_, (pss_cons (ps_set (i := 1) sc_law.nd rfl (Or.inl rfl) (pe_call G_law_pool (hr.mono (by decide)) rfl T.mg_law_pool T.F_law_pool.kp T.b_law_pool .nil pass0 (pa_cons (pv 0) (pa_cons pe_int (pa_cons pe_int pa_nil)))))
      (pss_cons (ps_set (i := 2) sc_law.nd rfl (Or.inl rfl) (pe_call G_law_pool (hr.mono (by decide)) rfl T.mg_law_pool T.F_law_pool.kp T.b_law_pool .nil pass0 (pa_cons (pv 0) (pa_cons pe_int (pa_cons pe_int pa_nil)))))
      (pss_cons (ps_set (i := 3) sc_law.nd rfl (Or.inl rfl) (pe_lst pa_nil))
      (pss_cons (ps_for PassesOwn.never rfl (pi_range1 (by rfl) T.n_range (pa_cons (pe_ix ix_list (pe_lst (pa_cons pe_int (pa_cons pe_int (pa_cons pe_int (pa_cons pe_int (pa_cons pe_int (pa_cons pe_int (pa_cons pe_int (pa_cons pe_int (pa_cons pe_int (pa_cons pe_int (pa_cons pe_int (pa_cons pe_int (pa_cons pe_int pa_nil)))))))))))))) (pe_op op_mod (pe_callTy call_int1 (by rfl) T.n_int (by decide +kernel) (pa_cons (pe_ix ix_list (pv 1) pe_int (fun _ _ => rfl)) pa_nil)) pe_int) (fun _ _ => rfl)) pa_nil)) (pg_name (i := 4) sc_law.nd rfl (Or.inl rfl))
        (pss_one (ps_expr (pe_bm PySem.F.plainAttrs_list PySem.F.slot_list_append PySem.F.type_list_append mt_append (pv 3) (pa_cons (pe_call G_law_new (hr.mono (by decide)) rfl T.mg_law_new T.F_law_new.kp T.b_law_new .nil pass0 (pa_cons (pv 3) (pa_cons (pe_call G_law_word (hr.mono (by decide)) rfl T.mg_law_word T.F_law_word.kp T.b_law_word .nil pass0 (pa_cons (pv 1) (pa_cons (pe_op op_add pe_int (pe_op op_mul pe_int (pv 4))) pa_nil))) pa_nil))) pa_nil)))))
      (pss_cons (ps_set (i := 5) sc_law.nd rfl (Or.inl rfl) (pe_ix ix_list (pe_lst (pa_cons pe_str (pa_cons pe_str pa_nil))) (pe_op op_mod (pe_callTy call_int1 (by rfl) T.n_int (by decide +kernel) (pa_cons (pe_ix ix_list (pv 1) pe_int (fun _ _ => rfl)) pa_nil)) pe_int) (fun _ _ => rfl)))
      (pss_cut (ps_if (PW.pt (pw_and (pt_cmpR op_gt (pe_callB call_len_seq (by rfl) T.n_len (by decide +kernel) (pa_cons (pv 3) pa_nil)) pe_int (nomark _)) (pw_and (pt_cmpR op_eq (pe_op op_mod (pe_callTy call_int1 (by rfl) T.n_int (by decide +kernel) (pa_cons (pe_ix ix_list (pv 1) pe_int (fun _ _ => rfl)) pa_nil)) pe_int) pe_int (nomark _)) (pw_and1 (pt_cmpR op_notIn_seq (pv 5) (pv 3) (by with_unfolding_all rfl)))))) (pss_one (ps_asg (pv 5) (pg_sub (pv 3) (pe_op op_mod (pe_callTy call_int1 (by rfl) T.n_int (by decide +kernel) (pa_cons (pe_ix ix_list (pv 1) pe_int (fun _ _ => rfl)) pa_nil)) (pe_callB call_len_seq (by rfl) T.n_len (by decide +kernel) (pa_cons (pv 3) pa_nil))) set_list))) pss_nil)
      (pss_cons (ps_set (i := 6) sc_law.nd rfl (Or.inl rfl) (pe_call G_law_form (hr.mono (by decide)) rfl T.mg_law_form T.F_law_form.kp T.b_law_form .nil pass0 (pa_cons (pv 3) (pa_cons (pv 1) (pa_cons pe_int (pa_cons pe_int pa_nil))))))
      (pss_cons (ps_set (i := 7) sc_law.nd rfl (Or.inl rfl) (pe_call G_law_form_text (hr.mono (by decide)) rfl T.mg_law_form_text T.F_law_form_text.kp T.b_law_form_text .nil pass0 (pa_cons (pv 6) pa_nil)))
      (pss_cons (ps_set (i := 8) sc_law.nd rfl (Or.inl rfl) (pe_call G_form_text (hr.mono (by decide)) rfl T.mg_form_text T.F_form_text.kp T.b_form_text .nil pass0 (pa_cons (pv 6) pa_nil)))
      (pss_cons (ps_if (PW.pt (pw_or (pt_not (pt_val (pe_callB call_isi (by rfl) T.n_isinstance (by decide +kernel) (pa_cons (pv 8) (pa_cons (pe_bltn (v := .ty "str") (by rfl) T.n_str (by decide +kernel) rfl) pa_nil))))) (pw_or (pt_cmpR op_ne (pv 8) (pv 7) (nomark _)) (pw_or1 (pt_cmpR (op_neD hr.units) (pe_call G_read_form (hr.mono (by decide)) rfl T.mg_read_form T.F_read_form.kp T.b_read_form .nil pass0 (pa_cons (pv 7) pa_nil)) (pv 6) (nomark _)))))) (pss_one (ps_ret pe_bl)) pss_nil)
      (pss_cons (ps_set (i := 9) sc_law.nd rfl (Or.inl rfl) (pe_call G_law_edited (hr.mono (by decide)) rfl T.mg_law_edited T.F_law_edited.kp T.b_law_edited .nil pass0 (pa_cons (pv 7) (pa_cons (pv 2) (pa_cons pe_int pa_nil)))))
      (pss_cons (ps_if (PW.pt (pw_or (pt_not (pt_val (pe_call G_law_answers (hr.mono (by decide)) rfl T.mg_law_answers T.F_law_answers.kp T.b_law_answers .nil pass0 (pa_cons (pv 9) pa_nil)))) (pw_or1 (pt_not (pt_val (pe_call G_law_answers (hr.mono (by decide)) rfl T.mg_law_answers T.F_law_answers.kp T.b_law_answers .nil pass0 (pa_cons (pe_call G_law_edited (hr.mono (by decide)) rfl T.mg_law_edited T.F_law_edited.kp T.b_law_edited .nil pass0 (pa_cons (pv 9) (pa_cons (pv 2) (pa_cons pe_int pa_nil)))) pa_nil))))))) (pss_one (ps_ret pe_bl)) pss_nil)
      (pss_cons (ps_if (PW.pt (pw_or (pt_not (pt_val (pe_call G_law_answers (hr.mono (by decide)) rfl T.mg_law_answers T.F_law_answers.kp T.b_law_answers .nil pass0 (pa_cons (pe_call G_law_edited (hr.mono (by decide)) rfl T.mg_law_edited T.F_law_edited.kp T.b_law_edited .nil pass0 (pa_cons (pv 7) (pa_cons (pv 2) (pa_cons pe_int pa_nil)))) pa_nil)))) (pw_or1 (pt_not (pt_val (pe_call G_law_answers (hr.mono (by decide)) rfl T.mg_law_answers T.F_law_answers.kp T.b_law_answers .nil pass0 (pa_cons (pe_call G_law_edited (hr.mono (by decide)) rfl T.mg_law_edited T.F_law_edited.kp T.b_law_edited .nil pass0 (pa_cons (pv 7) (pa_cons (pv 2) (pa_cons pe_int pa_nil)))) pa_nil))))))) (pss_one (ps_ret pe_bl)) pss_nil)
      (pss_cons (ps_if (PW.pt (pw_or (pt_not (pt_val (pe_call G_law_answers (hr.mono (by decide)) rfl T.mg_law_answers T.F_law_answers.kp T.b_law_answers .nil pass0 (pa_cons (pe_call G_law_written (hr.mono (by decide)) rfl T.mg_law_written T.F_law_written.kp T.b_law_written .nil pass0 (pa_cons (pe_ix ix_list (pv 2) pe_int (fun _ _ => rfl)) pa_nil)) pa_nil)))) (pw_or1 (pt_not (pt_val (pe_call G_law_answers (hr.mono (by decide)) rfl T.mg_law_answers T.F_law_answers.kp T.b_law_answers .nil pass0 (pa_cons (pe_call G_law_written (hr.mono (by decide)) rfl T.mg_law_written T.F_law_written.kp T.b_law_written .nil pass0 (pa_cons (pe_ix ix_list (pv 2) pe_int (fun _ _ => rfl)) pa_nil)) pa_nil))))))) (pss_one (ps_ret pe_bl)) pss_nil)
      (pss_cons (ps_set (i := 10) sc_law.nd rfl (Or.inl rfl) (pe_callTy call_list_of (by rfl) T.n_list (by decide +kernel) (pa_cons (pv 3) pa_nil)))
      (pss_cons (ps_for PassesOwn.never rfl (pi_range1 (by rfl) T.n_range (pa_cons (pe_op op_sub pe_int (pe_callB call_len_seq (by rfl) T.n_len (by decide +kernel) (pa_cons (pv 3) pa_nil))) pa_nil)) (pg_name (i := 11) sc_law.nd rfl (Or.inl rfl))
        (pss_one (ps_expr (pe_bm PySem.F.plainAttrs_list PySem.F.slot_list_append PySem.F.type_list_append mt_append (pv 10) (pa_cons (pe_call G_law_new (hr.mono (by decide)) rfl T.mg_law_new T.F_law_new.kp T.b_law_new .nil pass0 (pa_cons (pv 10) (pa_cons pe_str pa_nil))) pa_nil)))))
      (pss_cons (ps_for PassesOwn.never rfl (pi_list (pe_lst (pa_cons (pe_join pe_str (pv 10)) (pa_cons (pe_join pe_str (pe_slice sl_list (pv 10) (po_some pe_int) po_none)) pa_nil)))) (pg_name (i := 12) sc_law.nd rfl (Or.inl rfl))
        (pss_one (ps_if (PW.pt (pw_or (pt_not (pt_val (pe_call G_law_answers (hr.mono (by decide)) rfl T.mg_law_answers T.F_law_answers.kp T.b_law_answers .nil pass0 (pa_cons (pe_op op_add_str (pe_op op_add_str pe_str (pv 12)) pe_str) pa_nil)))) (pw_or1 (pt_not (pt_val (pe_call G_law_answers (hr.mono (by decide)) rfl T.mg_law_answers T.F_law_answers.kp T.b_law_answers .nil pass0 (pa_cons (pe_op op_add_str (pe_op op_add_str pe_str (pv 12)) pe_str) pa_nil))))))) (pss_one (ps_ret pe_bl)) pss_nil)))
      (pss_one (ps_ret (pe_and (pe_cmpR (op_eqD hr.units) (pe_call G_read_form (hr.mono (by decide)) rfl T.mg_read_form T.F_read_form.kp T.b_read_form .nil pass0 (pa_cons (pv 7) pa_nil)) (pv 6) (nomark _)) (pe_one (pe_cmpR op_eq (pe_call G_form_text (hr.mono (by decide)) rfl T.mg_form_text T.F_form_text.kp T.b_form_text .nil pass0 (pa_cons (pv 6) pa_nil)) (pv 7) (nomark _))))))))))))))))))))))), ?_⟩
    refine ⟨_, rfl, sa, ns, 0, 60, rfl, hS, by decide, by decide, by decide, fun p ps H1 s1 h1 l1 P1 => ?_⟩
    refine ⟨_, rfl, sa, ns, 1, 60, rfl, s1.seq hS, by decide, by decide, by decide, fun q qs H2 s2 h2 l2 P2 => ?_⟩
    have h60 : ps.length = 60 := by omega
    have q60 : qs.length = 60 := by omega
    have hP2 := s2.seq (K := K) (SqL.of h1)
    have hQ2 : SqL K H2 q (qs.map V.int) := SqL.of h2
    clear s1 s2 h1 h2
    obtain ⟨x0, _, e0⟩ := atI_ok (xs := ps) (j := 0) (by decide) (by omega)
    obtain ⟨x37, _, e37⟩ := atI_ok (xs := ps) (j := 37) (by decide) (by omega)
    obtain ⟨x38, _, e38⟩ := atI_ok (xs := ps) (j := 38) (by decide) (by omega)
    obtain ⟨x39, _, e39⟩ := atI_ok (xs := ps) (j := 39) (by decide) (by omega)
    obtain ⟨y12, _, f12⟩ := atI_ok (xs := qs) (j := 12) (by decide) (by omega)
    obtain ⟨y13, _, f13⟩ := atI_ok (xs := qs) (j := 13) (by decide) (by omega)
    refine ⟨by show 0 ≤ sizeLine; decide, fun c hc => ?_⟩
    have s3 := same_new (o := .lst []) hc
    have hc0 := hc
    have h3 := upd_same (H := H2) (a := c) (o := .lst [])
    generalize upd H2 c _ = H3 at s3 h3 ⊢
    refine ⟨by show 13 ≤ sizeLine; decide, fun l hl13 => ?_⟩
    have sl := same_new (o := .lst (nums13.map V.int)) hl13
    have m0 := Int.emod_nonneg x0 (show (13 : Int) ≠ 0 by decide)
    have m1 := Int.emod_lt_of_pos x0 (show (0 : Int) < 13 by decide)
    obtain ⟨v, hv, ev⟩ := atI_ok (xs := nums13) m0 (by show x0 % 13 < 13; omega)
    have hv := nums13_le v hv
    refine ⟨_, rfl, _, _, _, _, rfl, rfl, (s3.trans sl).seq hP2, e0, .inl ⟨_, rfl, _, _, rfl, rfl, by show (0 : Int) < 13; decide, _, _, _, _, rfl, rfl, SqL.of upd_same, ev, ?_⟩⟩
    refine ⟨v, rfl, by omega, by omega, for_range (n := v.toNat) (fun j σ H4 => ∃ (cs : List Str) (u5 : Option V), σ = [some (.ref sa), some (.ref p), some (.ref q), some (.ref c), u5, none, none, none, none, none, none, none, none] ∧ Same H2 H4 ∧ H4 c = some (.lst (sv cs)) ∧ (∀ z ∈ cs, Good z) ∧ cs.Nodup ∧ cs.length = j)
      ⟨[], none, rfl, s3.trans sl, sl _ _ h3, (fun z hz => nomatch hz), List.nodup_nil, rfl⟩ ?_ ?_⟩
    · rintro j σ H4 hj ⟨cs, u5, rfl, s4, h4, hg, nd, hlen⟩
      refine ⟨_, rfl, .inl ⟨rfl, _, SqL.of h4⟩, _, rfl, _, rfl, _, rfl, _, _, rfl, rfl, .inl ⟨by decide, by decide⟩, _, _, rfl, rfl, p, ps, _, rfl, s4.seq hP2, P1, by omega, by omega, fun z gz => ?_⟩
      refine ⟨c, cs, z, rfl, SqL.of h4, by omega, gz, fun z' g' n' => ⟨c, _, _, rfl, rfl, h4, small_int (by rw [len_sv]; omega), cs ++ [z'], _, rfl, ?_, ?_, ?_, ?_, ?_⟩⟩
      · intro b o e
        rw [upd_ne (ne_of_none e hc0)]
        exact s4 _ _ e
      · rw [sv_snoc]; exact upd_same
      · intro y hy
        rcases List.mem_append.mp hy with hy | hy
        · exact hg y hy
        · rw [List.mem_singleton.mp hy]; exact g'
      · rw [List.nodup_append]
        exact ⟨nd, by simp, fun a ha b hb e => n' (by rw [← List.mem_singleton.mp hb, ← e]; exact ha)⟩
      · rw [List.length_append, hlen]; rfl
    rintro σ H4 ⟨cs, u5, rfl, s4, h4, hg, nd, hlen⟩
    have co : Cols cs := ⟨hg, nd, by omega⟩
    clear sl hl13 ev s3 h3
    refine ⟨by show 2 ≤ sizeLine; decide, fun lw hlw => ?_⟩
    have slw := same_new (o := .lst [V.str ("loose" : Str), V.str "firm"]) hlw
    have w0 := Int.emod_nonneg x38 (show (2 : Int) ≠ 0 by decide)
    have w1 := Int.emod_lt_of_pos x38 (show (0 : Int) < 2 by decide)
    obtain ⟨wd, ew, gw⟩ := good_lf ⟨(x38 % 2).toNat, by omega⟩
    have ew : atI [V.str ("loose" : Str), V.str "firm"] (((x38 % 2).toNat : Nat) : Int) = some (V.str wd) := ew
    rw [show (((x38 % 2).toNat : Nat) : Int) = x38 % 2 by omega] at ew
    have s5 := s4.trans slw
    have h5 := slw _ _ h4
    refine ⟨_, rfl, _, _, _, _, rfl, rfl, s5.seq hP2, e38, .inl ⟨_, rfl, _, _, rfl, rfl, by show (0 : Int) < 2; decide, _, _, _, _, rfl, rfl, SqL.of upd_same, ew, ?_⟩⟩
    generalize upd H4 lw _ = H5 at s5 h5 ⊢
    clear slw hlw s4 h4
    refine ⟨fun σ H6 => ∃ cs : List Str, σ = [some (.ref sa), some (.ref p), some (.ref q), some (.ref c), u5, some (.str wd), none, none, none, none, none, none, none] ∧ Same H2 H6 ∧ H6 c = some (.lst (sv cs)) ∧ Cols cs, ?_, ?_⟩
    · refine ⟨_, rfl, c, _, rfl, .inl (SqL.of h5), _, _, rfl, rfl, _, rfl, ?_⟩
      rw [len_sv]
      by_cases hv0 : 0 < cs.length
      · refine itY (by omega) ?_
        refine ⟨_, rfl, _, _, _, _, rfl, rfl, s5.seq hP2, e37, .inl ⟨_, rfl, _, _, rfl, rfl, by show (0 : Int) < 3; decide, rfl, _, rfl, ite2 (fun hb => ?_) (fun hb => iteF ⟨cs, rfl, s5, h5, co⟩)⟩⟩
        refine ⟨_, rfl, _, rfl, c, _, rfl, .inl (SqL.of h5), rfl, flat_sv _, _, rfl, ?_⟩
        rw [if_pos (rfl : true = true), inV_str]
        by_cases hin : wd ∈ cs
        · exact ifF (by rw [decide_eq_true hin]; rfl) ⟨cs, rfl, s5, h5, co⟩
        · refine ifT (by rw [decide_eq_false hin]; rfl) ?_
          have n0 := Int.emod_nonneg x39 (show ((cs.length : Nat) : Int) ≠ 0 by omega)
          have n1 := Int.emod_lt_of_pos x39 (show 0 < ((cs.length : Nat) : Int) by omega)
          obtain ⟨n, en⟩ := Int.eq_ofNat_of_zero_le n0
          refine ⟨_, rfl, _, rfl, _, rfl, _, _, _, _, rfl, rfl, s5.seq hP2, e39, .inl ⟨_, rfl, _, rfl, c, _, rfl, .inl (SqL.of h5), _, _, rfl, rfl, by show (0 : Int) < (((sv cs).length : Nat) : Int); rw [len_sv]; omega, ?_⟩⟩
          refine ⟨c, sv cs, _, n, rfl, rfl, h5, by rw [len_sv, en]; exact ixN_of (by omega), cs.set n wd, rfl, fun b o e => ?_, ?_, co.set gw hin⟩
          · rw [upd_ne (ne_of_none e hc0)]; exact s5 _ _ e
          · rw [upd_same]; exact congrArg (fun z => some (HO.lst z)) List.map_set.symm
      · exact itN (by omega) (iteF ⟨cs, rfl, s5, h5, co⟩)
    rintro σ H6 ⟨cs, rfl, s6, h6, co⟩
    clear s5 h5 hg nd hlen ew
    refine ⟨_, rfl, _, rfl, c, p, cs, ps, 40, 11, rfl, SqL.of h6, co.g, co.n, s6.seq hP2, by decide, by decide, by decide, by omega, fun fv f H7 s7 hf fo => ?_⟩
    have bk := back_of co fo
    refine ⟨_, rfl, fv, f, rfl, hf, bk.acc.dep, by have := bk.len; omega, fun H8 s8 => ?_⟩
    have s78 := s7.trans s8
    have hf8 := hf.keep (Kt.of s8)
    refine ⟨_, rfl, fv, f, rfl, hf8, bk.acc.dep, by have := bk.len; omega, fun H9 s9 => ?_⟩
    have s79 := s78.trans s9
    have hf9 := hf8.keep (Kt.of s9)
    refine ⟨_, rfl, _, _, _, _, true, rfl, .ty _, .base (.str _), kit_ty (by decide +kernel), true, rfl, ?_⟩
    refine iteF ⟨_, rfl, _, rfl, rfl, _, rfl, itNe rfl ?_⟩
    refine ⟨_, rfl, showF f, f, rfl, by have := bk.len; omega, bk.reads, fun v2 H10 s10 hw => ?_⟩
    have s710 := s79.trans s10
    have hf10 := hf9.keep (Kt.of s10)
    have le64 : dep f ≤ 64 := Nat.le_trans bk.acc.dep (by decide)
    refine ⟨_, rfl, dF f, dF f, hw.dp, hf10.dp, shaped_dF bk.acc.let_ le64, shaped_dF bk.acc.let_ le64, _, rfl, ?_⟩
    rw [eqv_dF bk.acc.let_]
    refine iteF ?_
    have S10 := s6.trans s710
    have c10 := s710 _ _ h6
    clear s7 s8 s9 s10 s78 s79 hf hf8 hf9 hw
    have lt := Tx_len (showF f)
    have lb := bk.len
    refine ⟨_, rfl, _, rfl, q, _, qs, 0, rfl, S10.seq hQ2, P2, by decide, by omega, by omega, fun X1 hX1 => ?_⟩
    refine ⟨_, rfl, X1, rfl, by omega, fun H11 s11 => ⟨_, rfl, iteF ?_⟩⟩
    refine ⟨_, rfl, _, rfl, q, X1, qs, 3, rfl, (S10.trans s11).seq hQ2, P2, by decide, by omega, by omega, fun X2 hX2 => ⟨X2, rfl, by omega, fun H12 s12 => ⟨_, rfl, iteF ?_⟩⟩⟩
    refine ⟨_, rfl, _, rfl, q, _, qs, 6, rfl, ((S10.trans s11).trans s12).seq hQ2, P2, by decide, by omega, by omega, fun X3 hX3 => ⟨X3, rfl, by omega, fun H13 s13 => ⟨_, rfl, iteF ?_⟩⟩⟩
    refine ⟨_, rfl, _, rfl, q, _, qs, 9, rfl, (((S10.trans s11).trans s12).trans s13).seq hQ2, P2, by decide, by omega, by omega, fun X4 hX4 => ⟨X4, rfl, by omega, fun H14 s14 => ⟨_, rfl, iteF ?_⟩⟩⟩
    have S14 := (((s11.trans s12).trans s13).trans s14)
    have T14 := S10.trans S14
    refine ⟨_, rfl, q, _, 12, _, rfl, rfl, T14.seq hQ2, f12, y12, rfl, fun X5 H15 s15 hX5 => ⟨X5, rfl, by omega, fun H16 s16 => ⟨_, rfl, iteF ?_⟩⟩⟩
    refine ⟨_, rfl, q, _, 13, _, rfl, rfl, ((T14.trans s15).trans s16).seq hQ2, f13, y13, rfl, fun X6 H17 s17 hX6 => ⟨X6, rfl, by omega, fun H18 s18 => ⟨_, rfl, iteF ?_⟩⟩⟩
    have S18 := ((S14.trans s15).trans s16).trans (s17.trans s18)
    have hf18 := hf10.keep (Kt.of S18)
    have c18 := S18 _ _ c10
    clear s11 s12 s13 s14 s15 s16 s17 s18 S14 T14 S18 S10 c10 hf10
    generalize hto : V.str (Tx (showF f)) = vt
    refine ⟨_, rfl, c, _, rfl, .inl (SqL.of c18), fun m hm => ?_⟩
    have sm := same_new (o := .lst (sv cs)) hm
    have hm1 := upd_same (H := H18) (a := m) (o := .lst (sv cs))
    have hf19 := hf18.keep (Kt.of sm)
    have hf18x := hf18
    have c19 := sm _ _ c18
    clear hf18 c18
    have hm0 := hm
    clear hm
    generalize hX : upd H18 m _ = H19 at sm hm1 hf19 c19 ⊢
    clear hX
    have co12 := co.n
    refine ⟨_, rfl, c, _, rfl, .inl (SqL.of c19), _, _, rfl, rfl, _, rfl, by rw [len_sv]; omega, by rw [len_sv]; omega, for_range (fun j σ H' => ∃ (ms : List Str) (u : Option V), σ = [some (.ref sa), some (.ref p), some (.ref q), some (.ref c), u5, some (.str wd), some fv, some vt, some vt, some (.str X1), some (.ref m), u, none] ∧ Same H18 H' ∧ H' m = some (.lst (sv ms)) ∧ (∀ z ∈ ms, Good z) ∧ ms.length = cs.length + j)
      ⟨cs, none, by rw [← hto]; rfl, sm, hm1, co.g, rfl⟩ ?_ ?_⟩
    · rintro j σ H' hj ⟨ms, u, rfl, s', h', hg, hlen⟩
      rw [len_sv] at hj
      refine ⟨_, rfl, .inl ⟨rfl, _, SqL.of h'⟩, _, rfl, m, ms, "k", rfl, SqL.of h', by omega, ⟨by decide, by decide, by unfold Letters; decide⟩, fun z' g' n' => ⟨m, _, _, rfl, rfl, h', small_int (by rw [len_sv]; omega), ms ++ [z'], _, rfl, ?_, ?_, ?_, ?_⟩⟩
      · intro b o e
        rw [upd_ne (ne_of_none e hm0)]
        exact s' _ _ e
      · rw [sv_snoc]; exact upd_same
      · intro y hy
        rcases List.mem_append.mp hy with hy | hy
        · exact hg y hy
        · rw [List.mem_singleton.mp hy]; exact g'
      · rw [List.length_append, hlen]; rfl
    rintro σ H' ⟨ms, u, rfl, s', h', hg, hlen⟩
    rw [len_sv] at hlen
    have l13 : ms.length ≤ 13 := by omega
    have j1 := fits_join (a := (" " : Str)) (ys := ms) (B := 8) (n := 13) (fun y hy => (hg y hy).le) l13 (by rw [ls_sp]; decide)
    have j2 := fits_join (a := (" " : Str)) (ys := ms.drop 1) (B := 8) (n := 13) (fun y hy => (hg y (List.mem_of_mem_drop hy)).le) (by rw [List.length_drop]; omega) (by rw [ls_sp]; decide)
    rw [ls_sp] at j1 j2
    refine ⟨⟨_, rfl⟩, _, rfl, _, m, ms, rfl, rfl, .inl (SqL.of h'), by rw [ls_sp]; exact j1.1, ⟨_, rfl⟩, _, rfl, _, rfl, m, _, rfl, SqL.of h', fun sl hsl => ?_⟩
    rw [show (1 : Int) = ((1 : Nat) : Int) from rfl, cutV_dp, sv_drop]
    have ss := s'.trans (same_new (o := .lst (sv (ms.drop 1))) hsl)
    have hsl1 := upd_same (H := H') (a := sl) (o := .lst (sv (ms.drop 1)))
    generalize hX : upd H' sl _ = H20 at ss hsl1 ⊢
    clear hX
    refine ⟨_, sl, _, rfl, rfl, .inl (SqL.of hsl1), by rw [ls_sp]; exact j2.1, by show 2 ≤ sizeLine; decide, fun wl hwl => ?_⟩
    have j1 := j1.2
    have j2 := j2.2
    generalize Txt.join " " ms = w1 at j1 ⊢
    generalize Txt.join " " (ms.drop 1) = w2 at j2 ⊢
    have sw := ss.trans (same_new (o := .lst [V.str w1, V.str w2]) hwl)
    have hw1 := upd_same (H := H20) (a := wl) (o := .lst [V.str w1, V.str w2])
    generalize hX : upd H20 wl _ = H21 at sw hw1 ⊢
    clear hX
    have hf21 := hf18x.keep (Kt.of sw)
    refine ⟨wl, rfl, ⟨_, SqL.of hw1⟩, for_it (walk_list (xs := sv [w1, w2])) (fun i σ H' => Same H21 H' ∧ ∃ u', σ = [some (.ref sa), some (.ref p), some (.ref q), some (.ref c), u5, some (.str wd), some fv, some vt, some vt, some (.str X1), some (.ref m), u, u'])
      ⟨Same.refl _, _, rfl⟩ (fun i σ H' _ h => h.1.seq (SqL.of hw1)) ?_ ?_⟩
    · rintro i x σ H220 H22 hi ⟨s22, u', rfl⟩ ⟨rfl, hx⟩
      obtain ⟨z, hz, rfl⟩ := sv_get hx
      have lz : z.length ≤ 117 := by
        have := List.mem_of_getElem? hz
        rcases List.mem_cons.mp this with rfl | this
        · exact j1
        · rw [List.mem_singleton.mp this]; exact j2
      have big : 1000000 ≤ sizeLine := by decide
      have lo1 : ("(" : Str).length = 1 := by decide
      have lo2 : (")" : Str).length = 1 := by decide
      have lo3 : ("[" : Str).length = 1 := by decide
      have lo4 : ("]" : Str).length = 1 := by decide
      refine ⟨_, rfl, _, _, rfl, rfl, by omega, _, _, rfl, rfl, by rw [Str.length_append]; omega, _, rfl, by rw [Str.length_append, Str.length_append]; omega, fun H23 s23 => ⟨_, rfl, iteF ?_⟩⟩
      refine ⟨_, rfl, _, _, rfl, rfl, by omega, _, _, rfl, rfl, by rw [Str.length_append]; omega, _, rfl, by rw [Str.length_append, Str.length_append]; omega, fun H24 s24 => ⟨_, rfl, iteF ?_⟩⟩
      exact ⟨(s22.trans s23).trans s24, _, rfl⟩
    · rintro σ H22 ⟨s22, u', rfl⟩
      have hf22 := hf21.keep (Kt.of s22)
      subst hto
      refine ⟨_, rfl, showF f, f, rfl, by omega, bk.reads, fun v2 H23 s23 hw => ?_⟩
      have hf23 := hf22.keep (Kt.of s23)
      refine ⟨_, rfl, dF f, dF f, hw.dp, hf23.dp, shaped_dF bk.acc.let_ le64, shaped_dF bk.acc.let_ le64, _, rfl, ?_⟩
      rw [eqv_dF bk.acc.let_]
      refine iteT ⟨_, rfl, fv, f, rfl, hf23, bk.acc.dep, by omega, fun H24 s24 => ⟨_, rfl, rfl, ?_⟩⟩
      rw [decide_eq_true rfl]
      exact k _
end
end My
set_option maxRecDepth 100000
set_option maxHeartbeats 4000000
set_option exponentiation.threshold 10000
namespace My
open PySem L2
theorem all_mk {l : PySem.W.OpenLaw} {w : World} {K : PySem.W.Frag} {h : Heap} {mg : Str → Option Value} {fa C_FormReader C_RowsError C_Unknown C_Impossible C_BadText a_BadText_init a_is_name a_form_text a_read_form a_FormReader_init a_FormReader_take a_FormReader_result a_FormReader_add_name a_FormReader_close a_law_cell a_law_pool a_law_word a_law_new a_law_form a_law_form_text a_law_closed a_law_put a_law_described a_law_sign a_law_edited a_law_written a_law_answers a_law e_LEAST_PARTS e_OPENERS e_CLOSERS : Addr} (X : K.In h) (G : h.Ns mainGlobals mg) (hfa : mg "law" = some (.ref fa))
    {cd_BadText : ClassData}
    {oc_BadText_init kV_BadText_init dc_BadText_init pm_BadText_init ct_BadText_init oa_BadText_init ob_BadText_init : Value} {od_BadText_init an_BadText_init da_BadText_init db_BadText_init : Option Addr} {sl_BadText_init la_BadText_init lb_BadText_init : Array (Option Value)} {cda_BadText_init cc_BadText_init : Addr} {vs_BadText_init : Array Value} {fl_BadText_init : Str} {tf_BadText_init : Tok}
    {tk_LONGEST_NAME : Tok}
    {tk_MOST_NAMES : Tok}
    {es_LEAST_PARTS : Array DictEntry} {dn_LEAST_PARTS : Nat}
    {tk_kd_LEAST_PARTS_0 : Tok}
    {tk_kd_LEAST_PARTS_1 : Tok}
    {es_OPENERS : Array DictEntry} {dn_OPENERS : Nat}
    {tk_kd_OPENERS_0 : Tok}
    {tk_kd_OPENERS_1 : Tok}
    {es_CLOSERS : Array DictEntry} {dn_CLOSERS : Nat}
    {tk_kd_CLOSERS_0 : Tok}
    {tk_kd_CLOSERS_1 : Tok}
    {oc_is_name kV_is_name dc_is_name pm_is_name cd_is_name ct_is_name : Value} {od_is_name an_is_name : Option Addr} {sl_is_name : Array (Option Value)}
    {oc_form_text kV_form_text dc_form_text pm_form_text cd_form_text ct_form_text : Value} {od_form_text an_form_text : Option Addr} {sl_form_text : Array (Option Value)}
    {oc_read_form kV_read_form dc_read_form pm_read_form cd_read_form ct_read_form : Value} {od_read_form an_read_form : Option Addr} {sl_read_form : Array (Option Value)}
    {oc_FormReader_init kV_FormReader_init dc_FormReader_init pm_FormReader_init cd_FormReader_init ct_FormReader_init : Value} {od_FormReader_init an_FormReader_init : Option Addr} {sl_FormReader_init : Array (Option Value)}
    {oc_FormReader_take kV_FormReader_take dc_FormReader_take pm_FormReader_take cd_FormReader_take ct_FormReader_take : Value} {od_FormReader_take an_FormReader_take : Option Addr} {sl_FormReader_take : Array (Option Value)}
    {oc_FormReader_result kV_FormReader_result dc_FormReader_result pm_FormReader_result cd_FormReader_result ct_FormReader_result : Value} {od_FormReader_result an_FormReader_result : Option Addr} {sl_FormReader_result : Array (Option Value)}
    {oc_FormReader_add_name kV_FormReader_add_name dc_FormReader_add_name pm_FormReader_add_name cd_FormReader_add_name ct_FormReader_add_name : Value} {od_FormReader_add_name an_FormReader_add_name : Option Addr} {sl_FormReader_add_name : Array (Option Value)}
    {oc_FormReader_close kV_FormReader_close dc_FormReader_close pm_FormReader_close cd_FormReader_close ct_FormReader_close : Value} {od_FormReader_close an_FormReader_close : Option Addr} {sl_FormReader_close : Array (Option Value)}
    {oc_law_cell kV_law_cell dc_law_cell pm_law_cell cd_law_cell ct_law_cell : Value} {od_law_cell an_law_cell : Option Addr} {sl_law_cell : Array (Option Value)}
    {oc_law_pool kV_law_pool dc_law_pool pm_law_pool cd_law_pool ct_law_pool : Value} {od_law_pool an_law_pool : Option Addr} {sl_law_pool : Array (Option Value)}
    {oc_law_word kV_law_word dc_law_word pm_law_word cd_law_word ct_law_word : Value} {od_law_word an_law_word : Option Addr} {sl_law_word : Array (Option Value)}
    {oc_law_new kV_law_new dc_law_new pm_law_new cd_law_new ct_law_new : Value} {od_law_new an_law_new : Option Addr} {sl_law_new : Array (Option Value)}
    {oc_law_form kV_law_form dc_law_form pm_law_form cd_law_form ct_law_form : Value} {od_law_form an_law_form : Option Addr} {sl_law_form : Array (Option Value)}
    {oc_law_form_text kV_law_form_text dc_law_form_text pm_law_form_text cd_law_form_text ct_law_form_text : Value} {od_law_form_text an_law_form_text : Option Addr} {sl_law_form_text : Array (Option Value)}
    {oc_law_closed kV_law_closed dc_law_closed pm_law_closed cd_law_closed ct_law_closed : Value} {od_law_closed an_law_closed : Option Addr} {sl_law_closed : Array (Option Value)}
    {oc_law_put kV_law_put dc_law_put pm_law_put cd_law_put ct_law_put : Value} {od_law_put an_law_put : Option Addr} {sl_law_put : Array (Option Value)}
    {oc_law_described kV_law_described dc_law_described pm_law_described cd_law_described ct_law_described : Value} {od_law_described an_law_described : Option Addr} {sl_law_described : Array (Option Value)}
    {oc_law_sign kV_law_sign dc_law_sign pm_law_sign cd_law_sign ct_law_sign : Value} {od_law_sign an_law_sign : Option Addr} {sl_law_sign : Array (Option Value)}
    {oc_law_edited kV_law_edited dc_law_edited pm_law_edited cd_law_edited ct_law_edited : Value} {od_law_edited an_law_edited : Option Addr} {sl_law_edited : Array (Option Value)}
    {oc_law_written kV_law_written dc_law_written pm_law_written cd_law_written ct_law_written : Value} {od_law_written an_law_written : Option Addr} {sl_law_written : Array (Option Value)}
    {oc_law_answers kV_law_answers dc_law_answers pm_law_answers cd_law_answers ct_law_answers : Value} {od_law_answers an_law_answers : Option Addr} {sl_law_answers : Array (Option Value)}
    {oc_law kV_law dc_law pm_law cd_law ct_law : Value} {od_law an_law : Option Addr} {sl_law : Array (Option Value)}
    (xmg_FormReader : PySem.W.nsIn K mainGlobals "FormReader" = some (some (.ref C_FormReader)))
    (xmg_RowsError : PySem.W.nsIn K mainGlobals "RowsError" = some (some (.ref C_RowsError)))
    (xmg_Unknown : PySem.W.nsIn K mainGlobals "Unknown" = some (some (.ref C_Unknown)))
    (xmg_Impossible : PySem.W.nsIn K mainGlobals "Impossible" = some (some (.ref C_Impossible)))
    (xmg_BadText : PySem.W.nsIn K mainGlobals "BadText" = some (some (.ref C_BadText)))
    (am_BadText_init : PySem.W.findIn K (.ref C_BadText) "__init__" = some (some (.ref a_BadText_init)))
    (xmg_LONGEST_NAME : PySem.W.nsIn K mainGlobals "LONGEST_NAME" = some (some (.int 8 tk_LONGEST_NAME)))
    (xmg_MOST_NAMES : PySem.W.nsIn K mainGlobals "MOST_NAMES" = some (some (.int 12 tk_MOST_NAMES)))
    (xmg_LEAST_PARTS : PySem.W.nsIn K mainGlobals "LEAST_PARTS" = some (some (.ref e_LEAST_PARTS)))
    (xmg_OPENERS : PySem.W.nsIn K mainGlobals "OPENERS" = some (some (.ref e_OPENERS)))
    (xmg_CLOSERS : PySem.W.nsIn K mainGlobals "CLOSERS" = some (some (.ref e_CLOSERS)))
    (xmg_is_name : PySem.W.nsIn K mainGlobals "is_name" = some (some (.ref a_is_name)))
    (xmg_form_text : PySem.W.nsIn K mainGlobals "form_text" = some (some (.ref a_form_text)))
    (xmg_read_form : PySem.W.nsIn K mainGlobals "read_form" = some (some (.ref a_read_form)))
    (am_FormReader_init : PySem.W.findIn K (.ref C_FormReader) "__init__" = some (some (.ref a_FormReader_init)))
    (am_FormReader_take : PySem.W.findIn K (.ref C_FormReader) "take" = some (some (.ref a_FormReader_take)))
    (am_FormReader_result : PySem.W.findIn K (.ref C_FormReader) "result" = some (some (.ref a_FormReader_result)))
    (am_FormReader_add_name : PySem.W.findIn K (.ref C_FormReader) "_add_name" = some (some (.ref a_FormReader_add_name)))
    (am_FormReader_close : PySem.W.findIn K (.ref C_FormReader) "_close" = some (some (.ref a_FormReader_close)))
    (xmg_law_cell : PySem.W.nsIn K mainGlobals "_law_cell" = some (some (.ref a_law_cell)))
    (xmg_law_pool : PySem.W.nsIn K mainGlobals "_law_pool" = some (some (.ref a_law_pool)))
    (xmg_law_word : PySem.W.nsIn K mainGlobals "_law_word" = some (some (.ref a_law_word)))
    (xmg_law_new : PySem.W.nsIn K mainGlobals "_law_new" = some (some (.ref a_law_new)))
    (xmg_law_form : PySem.W.nsIn K mainGlobals "_law_form" = some (some (.ref a_law_form)))
    (xmg_law_form_text : PySem.W.nsIn K mainGlobals "_law_form_text" = some (some (.ref a_law_form_text)))
    (xmg_law_closed : PySem.W.nsIn K mainGlobals "_law_closed" = some (some (.ref a_law_closed)))
    (xmg_law_put : PySem.W.nsIn K mainGlobals "_law_put" = some (some (.ref a_law_put)))
    (xmg_law_described : PySem.W.nsIn K mainGlobals "_law_described" = some (some (.ref a_law_described)))
    (xmg_law_sign : PySem.W.nsIn K mainGlobals "_law_sign" = some (some (.ref a_law_sign)))
    (xmg_law_edited : PySem.W.nsIn K mainGlobals "_law_edited" = some (some (.ref a_law_edited)))
    (xmg_law_written : PySem.W.nsIn K mainGlobals "_law_written" = some (some (.ref a_law_written)))
    (xmg_law_answers : PySem.W.nsIn K mainGlobals "_law_answers" = some (some (.ref a_law_answers)))
    (xmg_law : PySem.W.nsIn K mainGlobals "law" = some (some (.ref a_law)))
    (if_FormReader_init : PySem.W.isFn K (.ref a_FormReader_init) = true)
    (if_FormReader_take : PySem.W.isFn K (.ref a_FormReader_take) = true)
    (if_FormReader_result : PySem.W.isFn K (.ref a_FormReader_result) = true)
    (if_FormReader_add_name : PySem.W.isFn K (.ref a_FormReader_add_name) = true)
    (if_FormReader_close : PySem.W.isFn K (.ref a_FormReader_close) = true)
    (l_BadText_init : K.lookup a_BadText_init = some ⟨oc_BadText_init, od_BadText_init, .func (PySem.W.ksFn "__init__" "BadText.__init__" (defArgs s_BadText_init) (defBody s_BadText_init) (defScope s_BadText_init) .none kV_BadText_init dc_BadText_init pm_BadText_init an_BadText_init (.ref cda_BadText_init) ct_BadText_init cc_BadText_init), sl_BadText_init⟩)
    (l_LEAST_PARTS : K.lookup e_LEAST_PARTS = some ⟨.type "dict", none, .dict es_LEAST_PARTS dn_LEAST_PARTS, #[]⟩)
    (l_OPENERS : K.lookup e_OPENERS = some ⟨.type "dict", none, .dict es_OPENERS dn_OPENERS, #[]⟩)
    (l_CLOSERS : K.lookup e_CLOSERS = some ⟨.type "dict", none, .dict es_CLOSERS dn_CLOSERS, #[]⟩)
    (l_is_name : K.lookup a_is_name = some ⟨oc_is_name, od_is_name, .func (PySem.W.fnOf "is_name" "is_name" (defArgs s_is_name) (defBody s_is_name) (defScope s_is_name) .none kV_is_name dc_is_name pm_is_name an_is_name cd_is_name ct_is_name), sl_is_name⟩)
    (l_form_text : K.lookup a_form_text = some ⟨oc_form_text, od_form_text, .func (PySem.W.fnOf "form_text" "form_text" (defArgs s_form_text) (defBody s_form_text) (defScope s_form_text) .none kV_form_text dc_form_text pm_form_text an_form_text cd_form_text ct_form_text), sl_form_text⟩)
    (l_read_form : K.lookup a_read_form = some ⟨oc_read_form, od_read_form, .func (PySem.W.fnOf "read_form" "read_form" (defArgs s_read_form) (defBody s_read_form) (defScope s_read_form) .none kV_read_form dc_read_form pm_read_form an_read_form cd_read_form ct_read_form), sl_read_form⟩)
    (l_FormReader_init : K.lookup a_FormReader_init = some ⟨oc_FormReader_init, od_FormReader_init, .func (PySem.W.fnOf "__init__" "FormReader.__init__" (defArgs s_FormReader_init) (defBody s_FormReader_init) (defScope s_FormReader_init) .none kV_FormReader_init dc_FormReader_init pm_FormReader_init an_FormReader_init cd_FormReader_init ct_FormReader_init), sl_FormReader_init⟩)
    (l_FormReader_take : K.lookup a_FormReader_take = some ⟨oc_FormReader_take, od_FormReader_take, .func (PySem.W.fnOf "take" "FormReader.take" (defArgs s_FormReader_take) (defBody s_FormReader_take) (defScope s_FormReader_take) .none kV_FormReader_take dc_FormReader_take pm_FormReader_take an_FormReader_take cd_FormReader_take ct_FormReader_take), sl_FormReader_take⟩)
    (l_FormReader_result : K.lookup a_FormReader_result = some ⟨oc_FormReader_result, od_FormReader_result, .func (PySem.W.fnOf "result" "FormReader.result" (defArgs s_FormReader_result) (defBody s_FormReader_result) (defScope s_FormReader_result) .none kV_FormReader_result dc_FormReader_result pm_FormReader_result an_FormReader_result cd_FormReader_result ct_FormReader_result), sl_FormReader_result⟩)
    (l_FormReader_add_name : K.lookup a_FormReader_add_name = some ⟨oc_FormReader_add_name, od_FormReader_add_name, .func (PySem.W.fnOf "_add_name" "FormReader._add_name" (defArgs s_FormReader_add_name) (defBody s_FormReader_add_name) (defScope s_FormReader_add_name) .none kV_FormReader_add_name dc_FormReader_add_name pm_FormReader_add_name an_FormReader_add_name cd_FormReader_add_name ct_FormReader_add_name), sl_FormReader_add_name⟩)
    (l_FormReader_close : K.lookup a_FormReader_close = some ⟨oc_FormReader_close, od_FormReader_close, .func (PySem.W.fnOf "_close" "FormReader._close" (defArgs s_FormReader_close) (defBody s_FormReader_close) (defScope s_FormReader_close) .none kV_FormReader_close dc_FormReader_close pm_FormReader_close an_FormReader_close cd_FormReader_close ct_FormReader_close), sl_FormReader_close⟩)
    (l_law_cell : K.lookup a_law_cell = some ⟨oc_law_cell, od_law_cell, .func (PySem.W.fnOf "_law_cell" "_law_cell" (defArgs s_law_cell) (defBody s_law_cell) (defScope s_law_cell) .none kV_law_cell dc_law_cell pm_law_cell an_law_cell cd_law_cell ct_law_cell), sl_law_cell⟩)
    (l_law_pool : K.lookup a_law_pool = some ⟨oc_law_pool, od_law_pool, .func (PySem.W.fnOf "_law_pool" "_law_pool" (defArgs s_law_pool) (defBody s_law_pool) (defScope s_law_pool) .none kV_law_pool dc_law_pool pm_law_pool an_law_pool cd_law_pool ct_law_pool), sl_law_pool⟩)
    (l_law_word : K.lookup a_law_word = some ⟨oc_law_word, od_law_word, .func (PySem.W.fnOf "_law_word" "_law_word" (defArgs s_law_word) (defBody s_law_word) (defScope s_law_word) .none kV_law_word dc_law_word pm_law_word an_law_word cd_law_word ct_law_word), sl_law_word⟩)
    (l_law_new : K.lookup a_law_new = some ⟨oc_law_new, od_law_new, .func (PySem.W.fnOf "_law_new" "_law_new" (defArgs s_law_new) (defBody s_law_new) (defScope s_law_new) .none kV_law_new dc_law_new pm_law_new an_law_new cd_law_new ct_law_new), sl_law_new⟩)
    (l_law_form : K.lookup a_law_form = some ⟨oc_law_form, od_law_form, .func (PySem.W.fnOf "_law_form" "_law_form" (defArgs s_law_form) (defBody s_law_form) (defScope s_law_form) .none kV_law_form dc_law_form pm_law_form an_law_form cd_law_form ct_law_form), sl_law_form⟩)
    (l_law_form_text : K.lookup a_law_form_text = some ⟨oc_law_form_text, od_law_form_text, .func (PySem.W.fnOf "_law_form_text" "_law_form_text" (defArgs s_law_form_text) (defBody s_law_form_text) (defScope s_law_form_text) .none kV_law_form_text dc_law_form_text pm_law_form_text an_law_form_text cd_law_form_text ct_law_form_text), sl_law_form_text⟩)
    (l_law_closed : K.lookup a_law_closed = some ⟨oc_law_closed, od_law_closed, .func (PySem.W.fnOf "_law_closed" "_law_closed" (defArgs s_law_closed) (defBody s_law_closed) (defScope s_law_closed) .none kV_law_closed dc_law_closed pm_law_closed an_law_closed cd_law_closed ct_law_closed), sl_law_closed⟩)
    (l_law_put : K.lookup a_law_put = some ⟨oc_law_put, od_law_put, .func (PySem.W.fnOf "_law_put" "_law_put" (defArgs s_law_put) (defBody s_law_put) (defScope s_law_put) .none kV_law_put dc_law_put pm_law_put an_law_put cd_law_put ct_law_put), sl_law_put⟩)
    (l_law_described : K.lookup a_law_described = some ⟨oc_law_described, od_law_described, .func (PySem.W.fnOf "_law_described" "_law_described" (defArgs s_law_described) (defBody s_law_described) (defScope s_law_described) .none kV_law_described dc_law_described pm_law_described an_law_described cd_law_described ct_law_described), sl_law_described⟩)
    (l_law_sign : K.lookup a_law_sign = some ⟨oc_law_sign, od_law_sign, .func (PySem.W.fnOf "_law_sign" "_law_sign" (defArgs s_law_sign) (defBody s_law_sign) (defScope s_law_sign) .none kV_law_sign dc_law_sign pm_law_sign an_law_sign cd_law_sign ct_law_sign), sl_law_sign⟩)
    (l_law_edited : K.lookup a_law_edited = some ⟨oc_law_edited, od_law_edited, .func (PySem.W.fnOf "_law_edited" "_law_edited" (defArgs s_law_edited) (defBody s_law_edited) (defScope s_law_edited) .none kV_law_edited dc_law_edited pm_law_edited an_law_edited cd_law_edited ct_law_edited), sl_law_edited⟩)
    (l_law_written : K.lookup a_law_written = some ⟨oc_law_written, od_law_written, .func (PySem.W.fnOf "_law_written" "_law_written" (defArgs s_law_written) (defBody s_law_written) (defScope s_law_written) .none kV_law_written dc_law_written pm_law_written an_law_written cd_law_written ct_law_written), sl_law_written⟩)
    (l_law_answers : K.lookup a_law_answers = some ⟨oc_law_answers, od_law_answers, .func (PySem.W.fnOf "_law_answers" "_law_answers" (defArgs s_law_answers) (defBody s_law_answers) (defScope s_law_answers) .none kV_law_answers dc_law_answers pm_law_answers an_law_answers cd_law_answers ct_law_answers), sl_law_answers⟩)
    (l_law : K.lookup a_law = some ⟨oc_law, od_law, .func (PySem.W.fnOf "law" "law" (defArgs s_law) (defBody s_law) (defScope s_law) .none kV_law dc_law pm_law an_law cd_law ct_law), sl_law⟩)
    (lx_BadText_init : K.lookup cda_BadText_init = some ⟨oa_BadText_init, da_BadText_init, .fields vs_BadText_init, la_BadText_init⟩)
    (lq_BadText_init : K.lookup cc_BadText_init = some ⟨ob_BadText_init, db_BadText_init, .cell (some (.ref C_BadText)), lb_BadText_init⟩)
    (c_BadText_init : PySem.W.codeIn K (.ref cda_BadText_init) "BadText.__init__" = true)
    (c_is_name : PySem.W.codeIn K cd_is_name "is_name" = true)
    (k_is_name : PySem.W.keepIn K (.ref a_is_name) = true)
    (c_form_text : PySem.W.codeIn K cd_form_text "form_text" = true)
    (k_form_text : PySem.W.keepIn K (.ref a_form_text) = true)
    (c_read_form : PySem.W.codeIn K cd_read_form "read_form" = true)
    (k_read_form : PySem.W.keepIn K (.ref a_read_form) = true)
    (c_FormReader_init : PySem.W.codeIn K cd_FormReader_init "FormReader.__init__" = true)
    (k_FormReader_init : PySem.W.keepIn K (.ref a_FormReader_init) = true)
    (c_FormReader_take : PySem.W.codeIn K cd_FormReader_take "FormReader.take" = true)
    (k_FormReader_take : PySem.W.keepIn K (.ref a_FormReader_take) = true)
    (c_FormReader_result : PySem.W.codeIn K cd_FormReader_result "FormReader.result" = true)
    (k_FormReader_result : PySem.W.keepIn K (.ref a_FormReader_result) = true)
    (c_FormReader_add_name : PySem.W.codeIn K cd_FormReader_add_name "FormReader._add_name" = true)
    (k_FormReader_add_name : PySem.W.keepIn K (.ref a_FormReader_add_name) = true)
    (c_FormReader_close : PySem.W.codeIn K cd_FormReader_close "FormReader._close" = true)
    (k_FormReader_close : PySem.W.keepIn K (.ref a_FormReader_close) = true)
    (c_law_cell : PySem.W.codeIn K cd_law_cell "_law_cell" = true)
    (k_law_cell : PySem.W.keepIn K (.ref a_law_cell) = true)
    (c_law_pool : PySem.W.codeIn K cd_law_pool "_law_pool" = true)
    (k_law_pool : PySem.W.keepIn K (.ref a_law_pool) = true)
    (c_law_word : PySem.W.codeIn K cd_law_word "_law_word" = true)
    (k_law_word : PySem.W.keepIn K (.ref a_law_word) = true)
    (c_law_new : PySem.W.codeIn K cd_law_new "_law_new" = true)
    (k_law_new : PySem.W.keepIn K (.ref a_law_new) = true)
    (c_law_form : PySem.W.codeIn K cd_law_form "_law_form" = true)
    (k_law_form : PySem.W.keepIn K (.ref a_law_form) = true)
    (c_law_form_text : PySem.W.codeIn K cd_law_form_text "_law_form_text" = true)
    (k_law_form_text : PySem.W.keepIn K (.ref a_law_form_text) = true)
    (c_law_closed : PySem.W.codeIn K cd_law_closed "_law_closed" = true)
    (k_law_closed : PySem.W.keepIn K (.ref a_law_closed) = true)
    (c_law_put : PySem.W.codeIn K cd_law_put "_law_put" = true)
    (k_law_put : PySem.W.keepIn K (.ref a_law_put) = true)
    (c_law_described : PySem.W.codeIn K cd_law_described "_law_described" = true)
    (k_law_described : PySem.W.keepIn K (.ref a_law_described) = true)
    (c_law_sign : PySem.W.codeIn K cd_law_sign "_law_sign" = true)
    (k_law_sign : PySem.W.keepIn K (.ref a_law_sign) = true)
    (c_law_edited : PySem.W.codeIn K cd_law_edited "_law_edited" = true)
    (k_law_edited : PySem.W.keepIn K (.ref a_law_edited) = true)
    (c_law_written : PySem.W.codeIn K cd_law_written "_law_written" = true)
    (k_law_written : PySem.W.keepIn K (.ref a_law_written) = true)
    (c_law_answers : PySem.W.codeIn K cd_law_answers "_law_answers" = true)
    (k_law_answers : PySem.W.keepIn K (.ref a_law_answers) = true)
    (c_law : PySem.W.codeIn K cd_law "law" = true)
    (k_law : PySem.W.keepIn K (.ref a_law) = true)
    (pgcl_FormReader : PySem.W.plainGet K C_FormReader Str.empty = true)
    (hdcl_FormReader : PySem.W.hasDictIn K C_FormReader = true)
    (pocl_FormReader : PySem.W.plainOver K C_FormReader = true)
    (sacl_FormReader : PySem.W.findIn K (.ref C_FormReader) "__setattr__" = some (some (.builtin "object.__setattr__")))
    (xsf_FormReader : PySem.W.selfFirst K C_FormReader = true)
    (kmk_FormReader : PySem.W.makesIn K C_FormReader = true)
    (kkmk_FormReader : PySem.W.keepIn K (.ref C_FormReader) = true)
    (xc1_FormReader : PySem.W.findIn K (.ref C_FormReader) "__class__" = some (some (.builtin "object.__class__")))
    (xc3_FormReader : PySem.W.mroIn K C_FormReader (.type "object") = some true)
    (xn_FormReader__names : PySem.W.findIn K (.ref C_FormReader) "_names" = some none)
    (xn_FormReader__pieces : PySem.W.findIn K (.ref C_FormReader) "_pieces" = some none)
    (xc2 : PySem.W.specialIn K (.builtin "object.__class__") "__get__" = some (some (.builtin "getset_descriptor.__get__")))
    (xc4 : PySem.W.takesIn K (.builtin "object.__class__") = some true)
    (xtp_RowsError : PySem.W.typeIn K (.ref C_RowsError) = some (.type "type"))
    (xic_RowsError : PySem.W.isClsIn K C_RowsError = true)
    (xtp_Unknown : PySem.W.typeIn K (.ref C_Unknown) = some (.type "type"))
    (xic_Unknown : PySem.W.isClsIn K C_Unknown = true)
    (xtp_Impossible : PySem.W.typeIn K (.ref C_Impossible) = some (.type "type"))
    (xic_Impossible : PySem.W.isClsIn K C_Impossible = true)
    (xtp_BadText : PySem.W.typeIn K (.ref C_BadText) = some (.type "type"))
    (xic_BadText : PySem.W.isClsIn K C_BadText = true)
    (g1SC_BadText : PySem.W.clsIn K C_BadText = some cd_BadText)
    (g2SC_BadText : PySem.W.mroIn K C_BadText (.ref C_BadText) = some true)
    (ksSC_BadText : PySem.W.ks_superIn K C_BadText C_BadText "__init__" = some (some (.builtin "ValueError.__init__")))
    (g4SC_BadText : PySem.W.nsIn K PySem.cStatics "thirdparty.any" = some none)
    (g5SC_BadText : PySem.W.nsIn K mainGlobals "super" = some none)
    (rfSC_BadText : (l.prog.main.scope.names.lookup ("super" : Str)).isSome = false)
    (kxSC_BadText : PySem.W.excInitIn K C_BadText [.type "ValueError", .type "Exception", .type "BaseException", .type "object"] "ValueError.__new__" = true)
    (g6SC_BadText : PySem.W.findIn K (.ref C_BadText) "__setattr__" = some (some (.builtin "object.__setattr__")))
    (rv_BadText_init : vs_BadText_init[2]? = some (.str fl_BadText_init tf_BadText_init))
    (rg_BadText_init : ((l.prog.main.file : Str) == fl_BadText_init) = true)
    (xti_BadText : PySem.W.typeIn K (.ref a_BadText_init) = some (.type "function"))
    (xxn_BadText_line : PySem.W.findIn K (.ref C_BadText) "line" = some none)
    (xk_BadText : PySem.W.keepIn K (.ref C_BadText) = true)
    (xbp_BadText : PySem.W.subIn K (.ref C_BadText) (.type "BaseException") = some true)
    (xsv_BadText : PySem.W.subIn K (.ref C_BadText) (.type "ValueError") = some true)
    (xss_BadText : PySem.W.subIn K (.ref C_BadText) (.ref C_BadText) = some true)
    (xsu_BadText_RowsError : PySem.W.subIn K (.ref C_BadText) (.ref C_RowsError) = some true)
    (xsu_BadText_Unknown : PySem.W.subIn K (.ref C_BadText) (.ref C_Unknown) = some false)
    (xsu_BadText_Impossible : PySem.W.subIn K (.ref C_BadText) (.ref C_Impossible) = some false)
    (xe1_BadText : PySem.W.findIn K (.ref C_BadText) "__getattribute__" = some (some (.builtin "BaseException.__getattribute__")))
    (xe2_BadText : PySem.W.findIn K (.ref C_BadText) "__getattr__" = some none)
    (xe3_BadText : PySem.W.hasDictIn K C_BadText = true)
    (xe4_BadText : PySem.W.findIn K (.ref C_BadText) "__class__" = some (some (.builtin "object.__class__")))
    (xe5_BadText : PySem.W.mroIn K C_BadText (.type "object") = some true)
    (xn_abs : PySem.W.nsIn K mainGlobals "abs" = some none)
    (xn_int : PySem.W.nsIn K mainGlobals "int" = some none)
    (xn_isinstance : PySem.W.nsIn K mainGlobals "isinstance" = some none)
    (xn_range : PySem.W.nsIn K mainGlobals "range" = some none)
    (xn_len : PySem.W.nsIn K mainGlobals "len" = some none)
    (xn_str : PySem.W.nsIn K mainGlobals "str" = some none)
    (xn_tuple : PySem.W.nsIn K mainGlobals "tuple" = some none)
    (xn_list : PySem.W.nsIn K mainGlobals "list" = some none)
    (xn_ValueError : PySem.W.nsIn K mainGlobals "ValueError" = some none)
    (xn_all : PySem.W.nsIn K mainGlobals "all" = some none)
    (xn_bool : PySem.W.nsIn K mainGlobals "bool" = some none)
    (xkd_LEAST_PARTS_0 : PySem.W.nsIn K e_LEAST_PARTS "loose" = some (some (.int 2 tk_kd_LEAST_PARTS_0)))
    (xkd_LEAST_PARTS_1 : PySem.W.nsIn K e_LEAST_PARTS "firm" = some (some (.int 3 tk_kd_LEAST_PARTS_1)))
    (xkd_OPENERS_0 : PySem.W.nsIn K e_OPENERS "(" = some (some (.str "loose" tk_kd_OPENERS_0)))
    (xkd_OPENERS_1 : PySem.W.nsIn K e_OPENERS "[" = some (some (.str "firm" tk_kd_OPENERS_1)))
    (xkd_CLOSERS_0 : PySem.W.nsIn K e_CLOSERS ")" = some (some (.str "loose" tk_kd_CLOSERS_0)))
    (xkd_CLOSERS_1 : PySem.W.nsIn K e_CLOSERS "]" = some (some (.str "firm" tk_kd_CLOSERS_1)))
    (kl_LEAST_PARTS : PySem.W.KeysLit w.params es_LEAST_PARTS.toList)
    (kl_OPENERS : PySem.W.KeysLit w.params es_OPENERS.toList)
    (kl_CLOSERS : PySem.W.KeysLit w.params es_CLOSERS.toList)
    : ∃ fd : FuncData, (∀ (s : Shared) (v : Value), BindsTo s fd ⟨[v], []⟩ [("script", v)]) ∧ ∀ base : Heap, K.In base → base.Ns mainGlobals mg → FnOk l.prog w K mg base CX0 40 fa fd ["script"] (spLaw K) := by
  have e := hfa.symm.trans (PySem.W.mg_of X G xmg_law)
  cases e
  have T : Txt l.prog w K mg ⟨C_FormReader, C_RowsError, C_Unknown, C_Impossible, C_BadText, a_BadText_init, _, a_is_name, _, a_form_text, _, a_read_form, _, a_FormReader_init, _, a_FormReader_take, _, a_FormReader_result, _, a_FormReader_add_name, _, a_FormReader_close, _, a_law_cell, _, a_law_pool, _, a_law_word, _, a_law_new, _, a_law_form, _, a_law_form_text, _, a_law_closed, _, a_law_put, _, a_law_described, _, a_law_sign, _, a_law_edited, _, a_law_written, _, a_law_answers, _, fa, _, e_LEAST_PARTS, e_OPENERS, e_CLOSERS⟩ := {
    mg_FormReader := PySem.W.mg_of X G xmg_FormReader
    cl_FormReader := ⟨pgcl_FormReader, hdcl_FormReader, pocl_FormReader, sacl_FormReader⟩
    sf_FormReader := xsf_FormReader
    mk_FormReader := ⟨kmk_FormReader, am_FormReader_init, if_FormReader_init, kkmk_FormReader⟩
    c1_FormReader := xc1_FormReader
    c3_FormReader := xc3_FormReader
    n_FormReader__names := xn_FormReader__names
    n_FormReader__pieces := xn_FormReader__pieces
    c2 := xc2
    c4 := xc4
    mg_RowsError := PySem.W.mg_of X G xmg_RowsError
    tp_RowsError := xtp_RowsError
    ic_RowsError := xic_RowsError
    mg_Unknown := PySem.W.mg_of X G xmg_Unknown
    tp_Unknown := xtp_Unknown
    ic_Unknown := xic_Unknown
    mg_Impossible := PySem.W.mg_of X G xmg_Impossible
    tp_Impossible := xtp_Impossible
    ic_Impossible := xic_Impossible
    mg_BadText := PySem.W.mg_of X G xmg_BadText
    tp_BadText := xtp_BadText
    ic_BadText := xic_BadText
    SC_BadText := ⟨⟨_, g1SC_BadText⟩, g2SC_BadText, ksSC_BadText, g4SC_BadText, xsv_BadText, PySem.W.mg_none_of X G g5SC_BadText, rfSC_BadText, oex_of kxSC_BadText xe3_BadText g6SC_BadText xbp_BadText xtp_BadText xk_BadText⟩
    SF_BadText := ⟨⟨_, _, _, _, _, _, _, _, _, _, rfl, l_BadText_init, c_BadText_init, ⟨_, _, _, _, _, _, lx_BadText_init, rv_BadText_init, rg_BadText_init⟩, _, _, _, lq_BadText_init⟩⟩
    ii_BadText := am_BadText_init
    ti_BadText := xti_BadText
    b_BadText_init := fun s us _ hl => by rw [List.append_nil] at hl ⊢; exact .of_eq (match us, hl with | [_, _], _ => rfl)
    xn_BadText_line := xxn_BadText_line
    xf_BadText := ⟨xe1_BadText, xe2_BadText, xbp_BadText, xe3_BadText⟩
    ec_BadText := ⟨xe1_BadText, xe2_BadText, xbp_BadText, xe3_BadText, xe4_BadText, xc2, xc4, xe5_BadText⟩
    k_BadText := xk_BadText
    bp_BadText := xbp_BadText
    sv_BadText := xsv_BadText
    ss_BadText := xss_BadText
    su_BadText_RowsError := xsu_BadText_RowsError
    su_BadText_Unknown := xsu_BadText_Unknown
    su_BadText_Impossible := xsu_BadText_Impossible
    e1_BadText := xe1_BadText
    e2_BadText := xe2_BadText
    e3_BadText := xe3_BadText
    e4_BadText := xe4_BadText
    e5_BadText := xe5_BadText
    mg_LONGEST_NAME := ⟨_, PySem.W.mg_of X G xmg_LONGEST_NAME⟩
    mg_MOST_NAMES := ⟨_, PySem.W.mg_of X G xmg_MOST_NAMES⟩
    n_abs := PySem.W.mg_none_of X G xn_abs
    n_int := PySem.W.mg_none_of X G xn_int
    n_isinstance := PySem.W.mg_none_of X G xn_isinstance
    n_range := PySem.W.mg_none_of X G xn_range
    n_len := PySem.W.mg_none_of X G xn_len
    n_str := PySem.W.mg_none_of X G xn_str
    n_tuple := PySem.W.mg_none_of X G xn_tuple
    n_list := PySem.W.mg_none_of X G xn_list
    n_ValueError := PySem.W.mg_none_of X G xn_ValueError
    n_all := PySem.W.mg_none_of X G xn_all
    n_bool := PySem.W.mg_none_of X G xn_bool
    mg_LEAST_PARTS := PySem.W.mg_of X G xmg_LEAST_PARTS
    kd_LEAST_PARTS_0 := ⟨_, _, _, l_LEAST_PARTS, kl_LEAST_PARTS, xkd_LEAST_PARTS_0, ⟨_, rfl⟩⟩
    kd_LEAST_PARTS_1 := ⟨_, _, _, l_LEAST_PARTS, kl_LEAST_PARTS, xkd_LEAST_PARTS_1, ⟨_, rfl⟩⟩
    mg_OPENERS := PySem.W.mg_of X G xmg_OPENERS
    kd_OPENERS_0 := ⟨_, _, _, l_OPENERS, kl_OPENERS, xkd_OPENERS_0, ⟨_, rfl⟩⟩
    kd_OPENERS_1 := ⟨_, _, _, l_OPENERS, kl_OPENERS, xkd_OPENERS_1, ⟨_, rfl⟩⟩
    mg_CLOSERS := PySem.W.mg_of X G xmg_CLOSERS
    kd_CLOSERS_0 := ⟨_, _, _, l_CLOSERS, kl_CLOSERS, xkd_CLOSERS_0, ⟨_, rfl⟩⟩
    kd_CLOSERS_1 := ⟨_, _, _, l_CLOSERS, kl_CLOSERS, xkd_CLOSERS_1, ⟨_, rfl⟩⟩
    F_is_name := fun_mk (st := s_is_name) l_is_name c_is_name k_is_name
    b_is_name := (fun_mk (st := s_is_name) l_is_name c_is_name k_is_name).binds fun _ _ _ _ _ _ us hl => match us, hl with | [_], _ => rfl
    mg_is_name := PySem.W.mg_of X G xmg_is_name
    F_form_text := fun_mk (st := s_form_text) l_form_text c_form_text k_form_text
    b_form_text := (fun_mk (st := s_form_text) l_form_text c_form_text k_form_text).binds fun _ _ _ _ _ _ us hl => match us, hl with | [_], _ => rfl
    mg_form_text := PySem.W.mg_of X G xmg_form_text
    F_read_form := fun_mk (st := s_read_form) l_read_form c_read_form k_read_form
    b_read_form := (fun_mk (st := s_read_form) l_read_form c_read_form k_read_form).binds fun _ _ _ _ _ _ us hl => match us, hl with | [_], _ => rfl
    mg_read_form := PySem.W.mg_of X G xmg_read_form
    F_FormReader_init := fun_mk (st := s_FormReader_init) l_FormReader_init c_FormReader_init k_FormReader_init
    b_FormReader_init := (fun_mk (st := s_FormReader_init) l_FormReader_init c_FormReader_init k_FormReader_init).binds fun _ _ _ _ _ _ us hl => match us, hl with | [_], _ => rfl
    m_FormReader_init := ⟨am_FormReader_init, if_FormReader_init, k_FormReader_init⟩
    F_FormReader_take := fun_mk (st := s_FormReader_take) l_FormReader_take c_FormReader_take k_FormReader_take
    b_FormReader_take := (fun_mk (st := s_FormReader_take) l_FormReader_take c_FormReader_take k_FormReader_take).binds fun _ _ _ _ _ _ us hl => match us, hl with | [_, _], _ => rfl
    m_FormReader_take := ⟨am_FormReader_take, if_FormReader_take, k_FormReader_take⟩
    F_FormReader_result := fun_mk (st := s_FormReader_result) l_FormReader_result c_FormReader_result k_FormReader_result
    b_FormReader_result := (fun_mk (st := s_FormReader_result) l_FormReader_result c_FormReader_result k_FormReader_result).binds fun _ _ _ _ _ _ us hl => match us, hl with | [_], _ => rfl
    m_FormReader_result := ⟨am_FormReader_result, if_FormReader_result, k_FormReader_result⟩
    F_FormReader_add_name := fun_mk (st := s_FormReader_add_name) l_FormReader_add_name c_FormReader_add_name k_FormReader_add_name
    b_FormReader_add_name := (fun_mk (st := s_FormReader_add_name) l_FormReader_add_name c_FormReader_add_name k_FormReader_add_name).binds fun _ _ _ _ _ _ us hl => match us, hl with | [_, _], _ => rfl
    m_FormReader_add_name := ⟨am_FormReader_add_name, if_FormReader_add_name, k_FormReader_add_name⟩
    F_FormReader_close := fun_mk (st := s_FormReader_close) l_FormReader_close c_FormReader_close k_FormReader_close
    b_FormReader_close := (fun_mk (st := s_FormReader_close) l_FormReader_close c_FormReader_close k_FormReader_close).binds fun _ _ _ _ _ _ us hl => match us, hl with | [_, _], _ => rfl
    m_FormReader_close := ⟨am_FormReader_close, if_FormReader_close, k_FormReader_close⟩
    F_law_cell := fun_mk (st := s_law_cell) l_law_cell c_law_cell k_law_cell
    b_law_cell := (fun_mk (st := s_law_cell) l_law_cell c_law_cell k_law_cell).binds fun _ _ _ _ _ _ us hl => match us, hl with | [_, _], _ => rfl
    mg_law_cell := PySem.W.mg_of X G xmg_law_cell
    F_law_pool := fun_mk (st := s_law_pool) l_law_pool c_law_pool k_law_pool
    b_law_pool := (fun_mk (st := s_law_pool) l_law_pool c_law_pool k_law_pool).binds fun _ _ _ _ _ _ us hl => match us, hl with | [_, _, _], _ => rfl
    mg_law_pool := PySem.W.mg_of X G xmg_law_pool
    F_law_word := fun_mk (st := s_law_word) l_law_word c_law_word k_law_word
    b_law_word := (fun_mk (st := s_law_word) l_law_word c_law_word k_law_word).binds fun _ _ _ _ _ _ us hl => match us, hl with | [_, _], _ => rfl
    mg_law_word := PySem.W.mg_of X G xmg_law_word
    F_law_new := fun_mk (st := s_law_new) l_law_new c_law_new k_law_new
    b_law_new := (fun_mk (st := s_law_new) l_law_new c_law_new k_law_new).binds fun _ _ _ _ _ _ us hl => match us, hl with | [_, _], _ => rfl
    mg_law_new := PySem.W.mg_of X G xmg_law_new
    F_law_form := fun_mk (st := s_law_form) l_law_form c_law_form k_law_form
    b_law_form := (fun_mk (st := s_law_form) l_law_form c_law_form k_law_form).binds fun _ _ _ _ _ _ us hl => match us, hl with | [_, _, _, _], _ => rfl
    mg_law_form := PySem.W.mg_of X G xmg_law_form
    F_law_form_text := fun_mk (st := s_law_form_text) l_law_form_text c_law_form_text k_law_form_text
    b_law_form_text := (fun_mk (st := s_law_form_text) l_law_form_text c_law_form_text k_law_form_text).binds fun _ _ _ _ _ _ us hl => match us, hl with | [_], _ => rfl
    mg_law_form_text := PySem.W.mg_of X G xmg_law_form_text
    F_law_closed := fun_mk (st := s_law_closed) l_law_closed c_law_closed k_law_closed
    b_law_closed := (fun_mk (st := s_law_closed) l_law_closed c_law_closed k_law_closed).binds fun _ _ _ _ _ _ us hl => match us, hl with | [_, _], _ => rfl
    mg_law_closed := PySem.W.mg_of X G xmg_law_closed
    F_law_put := fun_mk (st := s_law_put) l_law_put c_law_put k_law_put
    b_law_put := (fun_mk (st := s_law_put) l_law_put c_law_put k_law_put).binds fun _ _ _ _ _ _ us hl => match us, hl with | [_, _, _], _ => rfl
    mg_law_put := PySem.W.mg_of X G xmg_law_put
    F_law_described := fun_mk (st := s_law_described) l_law_described c_law_described k_law_described
    b_law_described := (fun_mk (st := s_law_described) l_law_described c_law_described k_law_described).binds fun _ _ _ _ _ _ us hl => match us, hl with | [_], _ => rfl
    mg_law_described := PySem.W.mg_of X G xmg_law_described
    F_law_sign := fun_mk (st := s_law_sign) l_law_sign c_law_sign k_law_sign
    b_law_sign := (fun_mk (st := s_law_sign) l_law_sign c_law_sign k_law_sign).binds fun _ _ _ _ _ _ us hl => match us, hl with | [_], _ => rfl
    mg_law_sign := PySem.W.mg_of X G xmg_law_sign
    F_law_edited := fun_mk (st := s_law_edited) l_law_edited c_law_edited k_law_edited
    b_law_edited := (fun_mk (st := s_law_edited) l_law_edited c_law_edited k_law_edited).binds fun _ _ _ _ _ _ us hl => match us, hl with | [_, _, _], _ => rfl
    mg_law_edited := PySem.W.mg_of X G xmg_law_edited
    F_law_written := fun_mk (st := s_law_written) l_law_written c_law_written k_law_written
    b_law_written := (fun_mk (st := s_law_written) l_law_written c_law_written k_law_written).binds fun _ _ _ _ _ _ us hl => match us, hl with | [_], _ => rfl
    mg_law_written := PySem.W.mg_of X G xmg_law_written
    F_law_answers := fun_mk (st := s_law_answers) l_law_answers c_law_answers k_law_answers
    b_law_answers := (fun_mk (st := s_law_answers) l_law_answers c_law_answers k_law_answers).binds fun _ _ _ _ _ _ us hl => match us, hl with | [_], _ => rfl
    mg_law_answers := PySem.W.mg_of X G xmg_law_answers
    F_law := fun_mk (st := s_law) l_law c_law k_law
    b_law := (fun_mk (st := s_law) l_law c_law k_law).binds fun _ _ _ _ _ _ us hl => match us, hl with | [_], _ => rfl
    mg_law := PySem.W.mg_of X G xmg_law
  }
  exact ⟨_, fun s v => .of_eq rfl, fun base _ _ => ok_law T⟩
theorem walk {l : PySem.W.OpenLaw} {q : Program} {loose : List Str} {XP : (Str → Option Value) → Heap → Prop} {YP : World → Heap → Prop} {d : DefRec} {K : Params → PySem.W.Frag} (hn : l.most = some 63) (hdf : d.params.defaults = [])
    (hY : ∀ (w : World) (h : Heap), YP w h → (K w.params).In h)
    (F : ∀ (w : World) (mg : Str → Option Value) (fa : Addr) (h : Heap), (K w.params).In h → h.Ns mainGlobals mg → mg d.name = some (.ref fa) →
      ∃ fd : FuncData, (∀ (s : Shared) (u : Value), BindsTo s fd ⟨[u], []⟩ [("script", u)]) ∧ ∀ base : Heap, (K w.params).In base → base.Ns mainGlobals mg → FnOk l.prog w (K w.params) mg base CX0 40 fa fd ["script"] (spLaw (K w.params))) :
    PySem.W.WalkO q loose XP YP l.row.toRowW d [] (fun f vs => PySem.call f vs) :=
  L2.walk_of (n := 63) (k := 40) (x := "script") (CX := fun _ => CX0) (sp := fun w => spLaw (K w.params)) hn (by decide) hdf ⟨rfl, by decide, by decide⟩ hY F (fun _ _ a ns hl _ hS => ⟨a, ns, rfl, hS, hl, fun _ => rfl⟩) fun _ _ _ _ _ z => z
end My
open PySem PySem.W PyProof.Rows
set_option maxRecDepth 100000 in
set_option maxHeartbeats 0 in
theorem PySem.Challenge.cw_unbrokenrows_k07_form_texts_holds : PySem.Challenge.rw_unbrokenrows_k07_form_texts.Holds := by
  w_on; o_law; k_head; (case hw => w_witness2)
  k_fill
  refine My.walk (l := PySem.Challenge.rw_unbrokenrows_k07_form_texts) rfl rfl (fun w h Y => PySem.W.kIn_of Y) ?F
  case F =>
    intro w mg fa h KX G hmg
    refine' My.all_mk KX G hmg ?xmg_FormReader ?xmg_RowsError ?xmg_Unknown ?xmg_Impossible ?xmg_BadText ?am_BadText_init ?xmg_LONGEST_NAME ?xmg_MOST_NAMES ?xmg_LEAST_PARTS ?xmg_OPENERS ?xmg_CLOSERS ?xmg_is_name ?xmg_form_text ?xmg_read_form ?am_FormReader_init ?am_FormReader_take ?am_FormReader_result ?am_FormReader_add_name ?am_FormReader_close ?xmg_law_cell ?xmg_law_pool ?xmg_law_word ?xmg_law_new ?xmg_law_form ?xmg_law_form_text ?xmg_law_closed ?xmg_law_put ?xmg_law_described ?xmg_law_sign ?xmg_law_edited ?xmg_law_written ?xmg_law_answers ?xmg_law ?if_FormReader_init ?if_FormReader_take ?if_FormReader_result ?if_FormReader_add_name ?if_FormReader_close ?l_BadText_init ?l_LEAST_PARTS ?l_OPENERS ?l_CLOSERS ?l_is_name ?l_form_text ?l_read_form ?l_FormReader_init ?l_FormReader_take ?l_FormReader_result ?l_FormReader_add_name ?l_FormReader_close ?l_law_cell ?l_law_pool ?l_law_word ?l_law_new ?l_law_form ?l_law_form_text ?l_law_closed ?l_law_put ?l_law_described ?l_law_sign ?l_law_edited ?l_law_written ?l_law_answers ?l_law ?lx_BadText_init ?lq_BadText_init ?c_BadText_init ?c_is_name ?k_is_name ?c_form_text ?k_form_text ?c_read_form ?k_read_form ?c_FormReader_init ?k_FormReader_init ?c_FormReader_take ?k_FormReader_take ?c_FormReader_result ?k_FormReader_result ?c_FormReader_add_name ?k_FormReader_add_name ?c_FormReader_close ?k_FormReader_close ?c_law_cell ?k_law_cell ?c_law_pool ?k_law_pool ?c_law_word ?k_law_word ?c_law_new ?k_law_new ?c_law_form ?k_law_form ?c_law_form_text ?k_law_form_text ?c_law_closed ?k_law_closed ?c_law_put ?k_law_put ?c_law_described ?k_law_described ?c_law_sign ?k_law_sign ?c_law_edited ?k_law_edited ?c_law_written ?k_law_written ?c_law_answers ?k_law_answers ?c_law ?k_law ?pgcl_FormReader ?hdcl_FormReader ?pocl_FormReader ?sacl_FormReader ?xsf_FormReader ?kmk_FormReader ?kkmk_FormReader ?xc1_FormReader ?xc3_FormReader ?xn_FormReader__names ?xn_FormReader__pieces ?xc2 ?xc4 ?xtp_RowsError ?xic_RowsError ?xtp_Unknown ?xic_Unknown ?xtp_Impossible ?xic_Impossible ?xtp_BadText ?xic_BadText ?g1SC_BadText ?g2SC_BadText ?ksSC_BadText ?g4SC_BadText ?g5SC_BadText ?rfSC_BadText ?kxSC_BadText ?g6SC_BadText ?rv_BadText_init ?rg_BadText_init ?xti_BadText ?xxn_BadText_line ?xk_BadText ?xbp_BadText ?xsv_BadText ?xss_BadText ?xsu_BadText_RowsError ?xsu_BadText_Unknown ?xsu_BadText_Impossible ?xe1_BadText ?xe2_BadText ?xe3_BadText ?xe4_BadText ?xe5_BadText ?xn_abs ?xn_int ?xn_isinstance ?xn_range ?xn_len ?xn_str ?xn_tuple ?xn_list ?xn_ValueError ?xn_all ?xn_bool ?xkd_LEAST_PARTS_0 ?xkd_LEAST_PARTS_1 ?xkd_OPENERS_0 ?xkd_OPENERS_1 ?xkd_CLOSERS_0 ?xkd_CLOSERS_1 ?kl_LEAST_PARTS ?kl_OPENERS ?kl_CLOSERS
    (case xmg_FormReader => k_is)
    (case xmg_RowsError => k_is)
    (case xmg_Unknown => k_is)
    (case xmg_Impossible => k_is)
    (case xmg_BadText => k_is)
    (case am_BadText_init => k_is)
    (case xmg_LONGEST_NAME => k_is)
    (case xmg_MOST_NAMES => k_is)
    (case xmg_LEAST_PARTS => k_is)
    (case xmg_OPENERS => k_is)
    (case xmg_CLOSERS => k_is)
    (case xmg_is_name => k_is)
    (case xmg_form_text => k_is)
    (case xmg_read_form => k_is)
    (case am_FormReader_init => k_is)
    (case am_FormReader_take => k_is)
    (case am_FormReader_result => k_is)
    (case am_FormReader_add_name => k_is)
    (case am_FormReader_close => k_is)
    (case xmg_law_cell => k_is)
    (case xmg_law_pool => k_is)
    (case xmg_law_word => k_is)
    (case xmg_law_new => k_is)
    (case xmg_law_form => k_is)
    (case xmg_law_form_text => k_is)
    (case xmg_law_closed => k_is)
    (case xmg_law_put => k_is)
    (case xmg_law_described => k_is)
    (case xmg_law_sign => k_is)
    (case xmg_law_edited => k_is)
    (case xmg_law_written => k_is)
    (case xmg_law_answers => k_is)
    (case xmg_law => k_is)
    (case if_FormReader_init => k_is)
    (case if_FormReader_take => k_is)
    (case if_FormReader_result => k_is)
    (case if_FormReader_add_name => k_is)
    (case if_FormReader_close => k_is)
    (case l_BadText_init => k_is)
    (case l_LEAST_PARTS => k_is)
    (case l_OPENERS => k_is)
    (case l_CLOSERS => k_is)
    (case l_is_name => k_is)
    (case l_form_text => k_is)
    (case l_read_form => k_is)
    (case l_FormReader_init => k_is)
    (case l_FormReader_take => k_is)
    (case l_FormReader_result => k_is)
    (case l_FormReader_add_name => k_is)
    (case l_FormReader_close => k_is)
    (case l_law_cell => k_is)
    (case l_law_pool => k_is)
    (case l_law_word => k_is)
    (case l_law_new => k_is)
    (case l_law_form => k_is)
    (case l_law_form_text => k_is)
    (case l_law_closed => k_is)
    (case l_law_put => k_is)
    (case l_law_described => k_is)
    (case l_law_sign => k_is)
    (case l_law_edited => k_is)
    (case l_law_written => k_is)
    (case l_law_answers => k_is)
    (case l_law => k_is)
    (case lx_BadText_init => k_is)
    (case lq_BadText_init => k_is)
    (case c_BadText_init => k_is)
    (case c_is_name => k_is)
    (case k_is_name => k_is)
    (case c_form_text => k_is)
    (case k_form_text => k_is)
    (case c_read_form => k_is)
    (case k_read_form => k_is)
    (case c_FormReader_init => k_is)
    (case k_FormReader_init => k_is)
    (case c_FormReader_take => k_is)
    (case k_FormReader_take => k_is)
    (case c_FormReader_result => k_is)
    (case k_FormReader_result => k_is)
    (case c_FormReader_add_name => k_is)
    (case k_FormReader_add_name => k_is)
    (case c_FormReader_close => k_is)
    (case k_FormReader_close => k_is)
    (case c_law_cell => k_is)
    (case k_law_cell => k_is)
    (case c_law_pool => k_is)
    (case k_law_pool => k_is)
    (case c_law_word => k_is)
    (case k_law_word => k_is)
    (case c_law_new => k_is)
    (case k_law_new => k_is)
    (case c_law_form => k_is)
    (case k_law_form => k_is)
    (case c_law_form_text => k_is)
    (case k_law_form_text => k_is)
    (case c_law_closed => k_is)
    (case k_law_closed => k_is)
    (case c_law_put => k_is)
    (case k_law_put => k_is)
    (case c_law_described => k_is)
    (case k_law_described => k_is)
    (case c_law_sign => k_is)
    (case k_law_sign => k_is)
    (case c_law_edited => k_is)
    (case k_law_edited => k_is)
    (case c_law_written => k_is)
    (case k_law_written => k_is)
    (case c_law_answers => k_is)
    (case k_law_answers => k_is)
    (case c_law => k_is)
    (case k_law => k_is)
    (case pgcl_FormReader => k_is)
    (case hdcl_FormReader => k_is)
    (case pocl_FormReader => k_is)
    (case sacl_FormReader => k_is)
    (case xsf_FormReader => k_is)
    (case kmk_FormReader => k_is)
    (case kkmk_FormReader => k_is)
    (case xc1_FormReader => k_is)
    (case xc3_FormReader => k_is)
    (case xn_FormReader__names => k_is)
    (case xn_FormReader__pieces => k_is)
    (case xc2 => k_is)
    (case xc4 => k_is)
    (case xtp_RowsError => k_is)
    (case xic_RowsError => k_is)
    (case xtp_Unknown => k_is)
    (case xic_Unknown => k_is)
    (case xtp_Impossible => k_is)
    (case xic_Impossible => k_is)
    (case xtp_BadText => k_is)
    (case xic_BadText => k_is)
    (case g1SC_BadText => k_is)
    (case g2SC_BadText => k_is)
    (case ksSC_BadText => ks_is)
    (case g4SC_BadText => k_is)
    (case g5SC_BadText => k_is)
    (case rfSC_BadText => first | rfl | decide +kernel)
    (case kxSC_BadText => kx_is)
    (case g6SC_BadText => k_is)
    (case rv_BadText_init => first | rfl | decide +kernel)
    (case rg_BadText_init => first | rfl | decide +kernel)
    (case xti_BadText => k_is)
    (case xxn_BadText_line => k_is)
    (case xk_BadText => k_is)
    (case xbp_BadText => k_is)
    (case xsv_BadText => k_is)
    (case xss_BadText => k_is)
    (case xsu_BadText_RowsError => k_is)
    (case xsu_BadText_Unknown => k_is)
    (case xsu_BadText_Impossible => k_is)
    (case xe1_BadText => k_is)
    (case xe2_BadText => k_is)
    (case xe3_BadText => k_is)
    (case xe4_BadText => k_is)
    (case xe5_BadText => k_is)
    (case xn_abs => k_is)
    (case xn_int => k_is)
    (case xn_isinstance => k_is)
    (case xn_range => k_is)
    (case xn_len => k_is)
    (case xn_str => k_is)
    (case xn_tuple => k_is)
    (case xn_list => k_is)
    (case xn_ValueError => k_is)
    (case xn_all => k_is)
    (case xn_bool => k_is)
    (case xkd_LEAST_PARTS_0 => k_is)
    (case xkd_LEAST_PARTS_1 => k_is)
    (case xkd_OPENERS_0 => k_is)
    (case xkd_OPENERS_1 => k_is)
    (case xkd_CLOSERS_0 => k_is)
    (case xkd_CLOSERS_1 => k_is)
    (case kl_LEAST_PARTS => exact ⟨⟨_, _, rfl, rfl⟩, ⟨⟨_, _, rfl, rfl⟩, trivial⟩⟩)
    (case kl_OPENERS => exact ⟨⟨_, _, rfl, rfl⟩, ⟨⟨_, _, rfl, rfl⟩, trivial⟩⟩)
    (case kl_CLOSERS => exact ⟨⟨_, _, rfl, rfl⟩, ⟨⟨_, _, rfl, rfl⟩, trivial⟩⟩)
#print axioms PySem.Challenge.cw_unbrokenrows_k07_form_texts_holds
