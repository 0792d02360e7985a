import PyProof.Rows.All
import Wide.All
import OpenK.AllK
import Wide.FinOn
import HandS.Base
import HandS.Call
import HandS.List
import HandS.OwnEq
import HandS.Ends
import HandS.ClsMeth
import HandS.ExcOwn
import HandS.ExcIs
import HandS.TryOnly
import HandS.ForMost
import HandS.Gcd
import HandS.Wide
import HandS.IsInst
import HandS.Defaults
import HandS.FStr
import HandS.Style
import HandS.WordsExc
import HandS.Codes
import PySem.Challenge.RW_unbrokenrows_k01_share_totals_and_texts
set_option Elab.async false
set_option linter.all false
set_option maxRecDepth 100000
namespace My
open PySem PySem.Spec PyProof.Rows L2
section
variable {X : Cx} {CX : CXT} {n : Nat} {f C : Addr} {fd : FuncData} {ps : List Str} {sp : Sp} {E : XK}
/-- a promise, called anywhere in the running body -/
theorem call_at (G0 : FnOk X.prog X.w X.K X.mg X.base CX n f fd ps sp) (hb : Binds X.K fd ps []) (hx : Passes CX X E) {A : Around} (hr : Room n A) (hA : A.frames = X.A.frames)
    {pins : List (Addr × Obj)} {s : Shared} {σ : L2.St} {H : Hp} (I : Inv X pins σ H s) {vs : List V} {us : List Value} (r : Vals vs us) {Q : VK} (h : sp vs H Q E) :
    wpAny (model X.prog X.w) A (call (.ref f) us) (EP X pins σ Q) X.xe s := by
  have e0 : Env0 X.prog X.w X.K X.mg X.base A X.stack s H := by
    have e := I.env0
    exact ⟨by rw [hA]; exact e.frames, e.mod, e.bs, e.bsz, e.funs, e.frf, e.hok, e.bare⟩
  have hl := G0.len _ _ _ _ h
  refine wpAny_call (codeAny_mono (G0.run A X.stack s H ⟨us, []⟩ us vs Q E hr e0 (by
    have := hb s us I.kIn (by rw [List.append_nil, ← r.length]; exact hl)
    simpa using this) r h) fun r s' hq => ?_)
  cases r with
  | error e => exact hx pins σ H s e s' I hq
  | ok fl =>
    cases fl with
    | ret w => exact I.after hq
    | next => exact False.elim hq
    | brk => exact False.elim hq
    | cont => exact False.elim hq
theorem relV_noNI {v : V} {u : Value} (r : RelV v u) : u ≠ .notImplemented := by
  intro e
  subst e
  cases v <;> first | (cases r; done) | (obtain ⟨_, z⟩ := r; cases z)
theorem cmpBack_of {pins : List (Addr × Obj)} {σ : L2.St} {Q : VK} {v : Value} {s : Shared} (h : EP X pins σ Q v s) : PySem.W.CmpBack (EP X pins σ Q) v s := by
  obtain ⟨x, H', I', r, q⟩ := id h
  cases v <;> first | exact h | exact absurd rfl (relV_noNI r)
/-- x op y, both instances of the class at C, by its own method -/
def rOwn2 (C : Addr) (sp : Sp) (E : XK) : R2 := fun x y H Q => ∃ a b dx dy fs gs, x = .ref a ∧ y = .ref b ∧ H a = some (.ins C dx fs) ∧ H b = some (.ins C dy gs) ∧ sp [.ref a, .ref b] H Q E
theorem op_own2 {op : Operator} (G0 : FnOk X.prog X.w X.K X.mg X.base CX n f fd ps sp) (hb : Binds X.K fd ps []) (hx : Passes CX X E) (hr : Room n X.A)
    (hs : PySem.W.findIn X.K (.ref C) (PySem.dunder op.info.2) = some (some (.ref f))) (hf : PySem.W.isFn X.K (.ref f) = true) (hc : PySem.W.selfFirst X.K C = true) : OpR X (binaryOp op) (rOwn2 C sp E) := by
  intro pins s σ H x y v u Q I rx ry h
  obtain ⟨a, b, dx, dy, fs, gs, rfl, rfl, ha, hb', q⟩ := h
  cases rx
  cases ry
  obtain ⟨mA, J, _⟩ := ins_get I.hok ha
  obtain ⟨mB, J', _⟩ := ins_get I.hok hb'
  obtain ⟨od, J, _⟩ := J.look
  obtain ⟨od', J', _⟩ := J'.look
  obtain ⟨m, hF⟩ := I.fr
  refine PySem.W.binop_K hF I.ok.mod.kin J J'.type hc hs hf ?_
  exact wpAny_mono (call_at G0 hb hx hr rfl I (vs := [.ref a, .ref b]) (.cons rfl (.cons rfl .nil)) q) (fun v s' z => cmpBack_of z) fun _ _ z => z
/-- x op k, x such an instance, k a whole number -/
def rOwnI (C : Addr) (sp : Sp) (E : XK) : R2 := fun x y H Q => ∃ a dx fs k, x = .ref a ∧ y = .int k ∧ H a = some (.ins C dx fs) ∧ sp [.ref a, .int k] H Q E
theorem op_ownI {op : Operator} {fo ro rc : Option Value} (G0 : FnOk X.prog X.w X.K X.mg X.base CX n f fd ps sp) (hb : Binds X.K fd ps []) (hx : Passes CX X E) (hr : Room n X.A)
    (hs : PySem.W.findIn X.K (.ref C) (PySem.dunder op.info.2) = some (some (.ref f))) (hf : PySem.W.isFn X.K (.ref f) = true) (hc : PySem.W.selfFirst X.K C = true)
    (hrr : PySem.W.findIn X.K (.ref C) (dunderR op.info.2) = some rc) (hp : rc = none ∨ ∃ g : Addr, rc = some (.ref g))
    (h1 : PySem.W.findIn X.K (.type "int") (PySem.dunder op.info.2) = some fo) (h2 : PySem.W.findIn X.K (.type "int") (dunderR op.info.2) = some ro) (hsub : PySem.W.subIn X.K (.type "int") (.ref C) = some false) :
    OpR X (binaryOp op) (rOwnI C sp E) := by
  intro pins s σ H x y v u Q I rx ry h
  obtain ⟨a, dx, fs, k, rfl, rfl, ha, q⟩ := h
  cases rx
  obtain ⟨t, rfl⟩ := ry
  obtain ⟨mA, J, _⟩ := ins_get I.hok ha
  obtain ⟨od, J, _⟩ := J.look
  obtain ⟨m, hF⟩ := I.fr
  refine PySem.W.ksp_binT (T := "int") hF I.ok.mod.kin J rfl hc hs hf hrr hp h1 h2 hsub ?_
  exact wpAny_mono (call_at G0 hb hx hr rfl I (vs := [.ref a, .int k]) (.cons rfl (.cons ⟨_, rfl⟩ .nil)) q) (fun v s' z => cmpBack_of z) fun _ _ z => z
/-- one-place operators of such an instance -/
def rOwn1 (C : Addr) (sp : Sp) (E : XK) : V → Hp → VK → Prop := fun x H Q => ∃ a dx fs, x = .ref a ∧ H a = some (.ins C dx fs) ∧ sp [.ref a] H Q E
theorem un_own (G0 : FnOk X.prog X.w X.K X.mg X.base CX n f fd ps sp) (hb : Binds X.K fd ps []) (hx : Passes CX X E) (hr : Room n X.A)
    (hs : PySem.W.findIn X.K (.ref C) "__neg__" = some (some (.ref f))) (hf : PySem.W.isFn X.K (.ref f) = true) : UnR X (unaryOp .USub) (rOwn1 C sp E) := by
  intro pins s σ H x v Q I rx h
  obtain ⟨a, dx, fs, rfl, ha, q⟩ := h
  cases rx
  obtain ⟨mA, J, _⟩ := ins_get I.hok ha
  obtain ⟨od, J, _⟩ := J.look
  obtain ⟨m, hF⟩ := I.fr
  exact PySem.W.ksp_neg hF I.ok.mod.kin J hs hf (call_at G0 hb hx hr rfl I (vs := [.ref a]) (.cons rfl .nil) q)
/-- abs(x), bool(x) of such an instance -/
theorem call_absOwn (G0 : FnOk X.prog X.w X.K X.mg X.base CX n f fd ps sp) (hb : Binds X.K fd ps []) (hx : Passes CX X E) (hr : Room (n + 1) X.A)
    (hs : PySem.W.findIn X.K (.ref C) "__abs__" = some (some (.ref f))) (hf : PySem.W.isFn X.K (.ref f) = true) :
    CallR X (.builtin "abs") (fun xs H Q => ∃ a dx fs, xs = [V.ref a] ∧ H a = some (.ins C dx fs) ∧ sp [.ref a] H Q E) := by
  intro pins s σ H xs us Q I r h
  obtain ⟨a, dx, fs, rfl, ha, q⟩ := h
  obtain ⟨u, rfl, r1⟩ := vals1 r
  cases r1
  obtain ⟨mA, J, _⟩ := ins_get I.hok ha
  obtain ⟨od, J, _⟩ := J.look
  refine PySem.Calls.call_function_entry kind_abs plain_abs entry_abs (args_abs _) ?_
  unfold Builtin.«abs»
  refine wpAny_bind (m := oneArg "abs" _) (wpAny_pure ?_)
  refine wpAny_bind (m := callSpecial? (.ref a) (Str.ofString "__abs__")) (PySem.W.special_fn I.kIn J hs (beq_iff_eq.mp hf) ?_)
  refine wpAny_mono (call_at G0 hb hx (A := X.A.in1) hr.in1 rfl I (vs := [.ref a]) (.cons rfl .nil) q) (fun v s' z => ?_) fun _ _ z => z
  exact wpAny_pure ⟨_, rfl, z⟩
theorem meets_bool_own (prog : Program) (w : World) (l : Addr) : MeetsIn prog w (Builtin.«bool.__new__» ⟨[.type "bool", .ref l], []⟩)
    (fun A R s => wpAny (model prog w) A.in1 (truthy (.ref l)) (fun b s' => R (.ok (.ret (.bool b))) s') (fun e s' => R (.error e) s') s) := by
  intro A R s hs
  have f1 := F.conv_sub_bool
  unfold Builtin.«bool.__new__»
  dsimp only
  repeat (any_goals (first | assumption | (with_reducible refine wpAny_mono hs (fun b s' z => ?_) (fun _ _ z => z)) | wp_step))
  all_goals first | exact z | skip
theorem call_boolOwn (G0 : FnOk X.prog X.w X.K X.mg X.base CX n f fd ps sp) (hb : Binds X.K fd ps []) (hx : Passes CX X E) (hr : Room (n + 2) X.A)
    (hs : PySem.W.findIn X.K (.ref C) "__bool__" = some (some (.ref f))) (hf : PySem.W.isFn X.K (.ref f) = true) :
    CallR X (.type "bool") (fun xs H Q => ∃ a dx fs, xs = [V.ref a] ∧ H a = some (.ins C dx fs) ∧ sp [.ref a] H (fun v H' => ∃ k, v = .bl k ∧ Q v H') E) := by
  intro pins s σ H xs us Q I r h
  obtain ⟨a, dx, fs, rfl, ha, q⟩ := h
  obtain ⟨u, rfl, r1⟩ := vals1 r
  cases r1
  obtain ⟨mA, J, _⟩ := ins_get I.hok ha
  obtain ⟨od, J, _⟩ := J.look
  obtain ⟨m, hF⟩ := I.fr
  refine callType_newIn F.called_bool F.newNe_bool (F.typeCall_bool_1 _) (F.newCall_bool_1 _) (fun obj => F.args_object_init_2 obj _) F.entry_bool_new (meets_bool_own X.prog X.w a) ?_
  refine PySem.W.truthy_K hF I.ok.mod.kin J hs hf ?_
  refine wpAny_mono (call_at G0 hb hx (A := X.A.in1.in1) hr.in1.in1 rfl I (vs := [.ref a]) (.cons rfl .nil) q) (fun v s' z => ?_) fun _ _ z => z
  obtain ⟨x, H', I', r, k, rfl, q'⟩ := z
  cases r
  exact ⟨PySem.typeIs_bool _ _, .bl k, H', I', rfl, q'⟩
/-- == of two such instances -/
def rOwnEq (C : Addr) (sp : Sp) (E : XK) : R2 := fun x y H Q => ∃ a b dx dy fs gs, x = .ref a ∧ y = .ref b ∧ H a = some (.ins C dx fs) ∧ H b = some (.ins C dy gs) ∧ sp [.ref a, .ref b] H Q E
theorem op_eqOwn (G0 : FnOk X.prog X.w X.K X.mg X.base CX n f fd ps sp) (hb : Binds X.K fd ps []) (hx : Passes CX X E) (hr : Room n X.A)
    (hs : PySem.W.findIn X.K (.ref C) "__eq__" = some (some (.ref f))) (hf : PySem.W.isFn X.K (.ref f) = true) : OpR X (compareOp .Eq) (rOwnEq C sp E) := by
  intro pins s σ H x y v u Q I rx ry h
  obtain ⟨a, b, dx, dy, fs, gs, rfl, rfl, ha, hb', q⟩ := h
  cases rx
  cases ry
  obtain ⟨mA, J, _⟩ := ins_get I.hok ha
  obtain ⟨mB, J', _⟩ := ins_get I.hok hb'
  obtain ⟨od, J, _⟩ := J.look
  obtain ⟨od', J', _⟩ := J'.look
  obtain ⟨m, hF⟩ := I.fr
  show wpAny (model X.prog X.w) X.A (richCompare .Eq (.ref a) (.ref b)) (EP X pins σ Q) X.xe s
  refine PySem.W.cmp_K (op := .Eq) (tb := .ref C) hr.units0 hF I.ok.mod.kin J J'.type (by simp [PySem.W.notFirst]) hs hf ?_
  exact wpAny_mono (call_at G0 hb hx hr rfl I (vs := [.ref a, .ref b]) (.cons rfl (.cons rfl .nil)) q) (fun v s' z => cmpBack_of z) fun _ _ z => z
end
end My
set_option maxRecDepth 100000
namespace My
open PySem PySem.Spec PyProof.Rows L2
open ClX (CRead)
section
variable {X : Cx} {CX : CXT} {n k : Nat} {f C : Addr} {fd : FuncData} {ps : List Str} {sp : Sp} {E : XK}
/-- str(x) of an instance with its own __str__ -/
theorem call_strOwn (G0 : FnOk X.prog X.w X.K X.mg X.base CX n f fd ps sp) (hb : Binds X.K fd ps []) (hx : Passes CX X E) (hr : Room (n + 2) X.A)
    (hs : PySem.W.findIn X.K (.ref C) "__str__" = some (some (.ref f))) (hf : PySem.W.isFn X.K (.ref f) = true) :
    CallR X (.type "str") (fun xs H Q => ∃ a dx fs, xs = [V.ref a] ∧ H a = some (.ins C dx fs) ∧ sp [.ref a] H (fun v H' => ∃ z, v = .str z ∧ Q v H') E) := by
  intro pins s σ H xs us Q I r h
  obtain ⟨a, dx, fs, rfl, ha, q⟩ := h
  obtain ⟨u, rfl, r1⟩ := vals1 r
  cases r1
  obtain ⟨mA, J, _⟩ := ins_get I.hok ha
  obtain ⟨od, J, _⟩ := J.look
  refine PySem.W.kso_call (hr.in1.in1.units0) I.kIn J hs hf ?_
  refine wpAny_mono (call_at G0 hb hx (A := X.A.in1.in1) hr.in1.in1 rfl I (vs := [.ref a]) (.cons rfl .nil) q) (fun v s' z => ?_) fun _ _ z => z
  obtain ⟨x, H', I', r, y, rfl, q'⟩ := z
  obtain ⟨t, rfl⟩ := r
  exact ⟨.str y, H', I', ⟨_, rfl⟩, q'⟩
/-- C.m is a staticmethod: its record at p, its def at g -/
structure SMet (K : PySem.W.Frag) (C : Addr) (mc : Value) (m : Str) (p g : Addr) : Prop where
  at_ : PySem.W.findCls K (.ref C) mc m = some (.get (.builtin "staticmethod.__get__") (.ref p) .none (.ref C))
  rc : ∃ rest, PySem.W.recIn K p "staticmethod" = some (.ref g :: rest)
  kp : PySem.W.keepIn K (.ref g) = true
theorem getmethsm_ok {pins : List (Addr × Obj)} {σ : L2.St} {H : Hp} {s : Shared} {p g : Addr} {mc : Value} {m : Str} {A : Around} {E : Value → Shared → Prop} {pl : Sem Bool} {Q : Value × List Value → Shared → Prop} (I : Inv X pins σ H s) (r : CRead X.K C mc) (k : SMet X.K C mc m p g)
    (h : ∀ s', Inv X pins σ H s' → Q (.ref g, []) s') : wpAny (model X.prog X.w) A (getMethod (.ref C) m pl) Q E s := by
  refine PySem.W.method_cls I.kIn r.ga ?_
  obtain ⟨rest, hp⟩ := k.rc
  refine PySem.W.cls_bind I.kIn r.rd k.at_ ?_
  refine wpAny_call (PySem.W.sm_get (s := { s with toks := s.toks + 1 }) I.kIn hp (PySem.W.handed_on rfl ?_))
  exact h _ (I.tok _)
/-- C.m(e, ..), m a staticmethod of the class at C -/
def tSMeth (C : Addr) (sp : Sp) (dvs : List V) (E : XK) (ta : TE) (t : TA) : TE := fun σ H Q => ta σ H fun x H1 => x = .ref C ∧ t σ H1 fun vs H2 => sp (vs ++ dvs) H2 Q E
theorem pe_smeth {o e : Expr} {es : List Expr} {p g : Addr} {mc : Value} {m : Str} {pos apos : Pos} {ta : TE} {t : TA} {pl : Sem Bool} {ds : List Value} {dvs : List V} (he : PE X o ta) (r : CRead X.K C mc) (c : SMet X.K C mc m p g)
    (G0 : FnOk X.prog X.w X.K X.mg X.base CX k g fd ps sp) (hr : Room k X.A) (hb : Binds X.K fd ps ds) (hd : Vals dvs ds) (hx : Passes CX X E) (ha : PA X (e :: es) t)
    (hst : starEach (e :: es) X.env = (false, eval e X.env) :: starEach es X.env := by rfl) (hpl : (backTo pos (starEach es X.env)).any (·.1) = false := by rfl)
    (ht : eval (.Call (.Attribute o m apos) (e :: es) [] pos) X.env = (do
      let ov ← eval o X.env
      standAt apos.atName
      let (f, first) ← holding [ov] (getMethod ov m pl)
      callWith pos f first (backTo pos (starEach (e :: es) X.env)) (backToKw pos (keywordEach [] X.env))) := by rfl) :
    PE X (.Call (.Attribute o m apos) (e :: es) [] pos) (tSMeth C sp dvs E ta t) := by
  refine ⟨fun pins s σ H Q I h => ?_⟩
  refine PySem.W.methodCall_KW (pl := pl) (thn (he.run pins s σ H _ I h) fun u s1 ⟨x, H1, I1, rx, ex, q⟩ => ?_) ht
  subst ex
  obtain rfl : u = Value.ref C := rx
  refine getmethsm_ok I1 r c fun s2 I2 => ?_
  refine PySem.W.callWith_K (h₀ := X.base) I2.ok.mod.kin c.kp (thn (ha.run pos pins s2 σ H1 _ I2 q) fun us s3 ⟨vs, H2, I3, r3, q3⟩ => ⟨I3.kIn, ?_⟩) hst hpl
  exact run_fn G0 hr hb hd hx I3 r3 q3
/-- C(e, ..) where what its __init__ raises is wished for -/
def tMakeS (C : Addr) (sp : Sp) (E : L2.St → XK) (t : TA) : TE := fun σ H Q => t σ H fun vs H1 => ∀ x dx, H1 x = none → H1 dx = none → dx ≠ x →
  sp (.ref x :: vs) (upd (upd H1 dx (.own x)) x (.ins C dx [])) (fun v H2 => v = .non ∧ Q (.ref x) H2) (E σ)
theorem run_makeS {E : L2.St → XK} {pins : List (Addr × Obj)} {σ : L2.St} {H : Hp} {s : Shared} {Q : VK} {us : List Value} {vs : List V} (M : Mk X.K C f) (G0 : FnOk X.prog X.w X.K X.mg X.base CX k f fd ps sp) (hr : Room (k + 1) X.A) (hb : Binds X.K fd ps [])
    (hx : PassesAt CX X σ (E σ)) (I : Inv X pins σ H s) (r : Vals vs us)
    (h : ∀ x dx, H x = none → H dx = none → dx ≠ x → sp (.ref x :: vs) (upd (upd H dx (.own x)) x (.ins C dx [])) (fun v H2 => v = .non ∧ Q (.ref x) H2) (E σ)) :
    wpAny (model X.prog X.w) X.A (call (.ref C) us) (EP X pins σ Q) X.xe s := by
  have hq := h (s.heap.objs.size + 1) s.heap.objs.size (I.hok.fresh (Nat.le_succ _)) (I.hok.fresh (Nat.le_refl _)) (Nat.ne_of_lt (Nat.lt_succ_self _))
  have I2 := Inv.made (C := C) I
  have r2 : Vals (V.ref (s.heap.objs.size + 1) :: vs) (Value.ref (s.heap.objs.size + 1) :: us) := .cons rfl r
  have hl : (Value.ref (s.heap.objs.size + 1) :: us).length = ps.length := by
    have e := r2.length
    rw [G0.len _ _ _ _ hq] at e
    exact e.symm
  have b := hb _ (Value.ref (s.heap.objs.size + 1) :: us) I2.kIn (by rw [List.append_nil]; exact hl)
  rw [List.append_nil] at b
  refine wpAny_call (make_map (f := f) I.kIn M.makes M.init (beq_iff_eq.mp M.fn) (codeAny_mono (G0.run _ X.stack _ _ ⟨Value.ref (s.heap.objs.size + 1) :: us, []⟩ (Value.ref (s.heap.objs.size + 1) :: us) _ _ (E σ) (hr.make C us [])
    (I2.env0.make C us []) b r2 hq) fun r s' hq' => ?_))
  cases r with
  | error e => exact hx pins _ _ e s' I2 hq'
  | ok fl =>
    cases fl with
    | ret u =>
      obtain ⟨v, H', I3, rv, ev, q3⟩ := I2.after hq'
      subst ev
      exact ⟨rv, ⟨V.ref (s.heap.objs.size + 1), H', I3, rfl, q3⟩⟩
    | next => exact False.elim hq'
    | brk => exact False.elim hq'
    | cont => exact False.elim hq'
theorem pe_makeS {E : L2.St → XK} {x : Str} {p pos : Pos} {e : Expr} {es : List Expr} {t : TA} (M : Mk X.K C f) (G0 : FnOk X.prog X.w X.K X.mg X.base CX k f fd ps sp) (hr : Room (k + 1) X.A) (hg : Gl X x) (hm : X.mg x = some (.ref C)) (hb : Binds X.K fd ps []) (hx : ∀ σ, PassesAt CX X σ (E σ))
    (ha : PA X (e :: es) t) (hdb : (x == ("__debug__" : Str)) = false := by decide) (he : starEach (e :: es) X.env = (false, eval e X.env) :: starEach es X.env := by rfl) (hpl : (backTo pos (starEach es X.env)).any (·.1) = false := by rfl) :
    PE X (.Call (.Name x p) (e :: es) [] pos) (tMakeS C sp E t) := by
  refine ⟨fun pins s σ H Q I h => ?_⟩
  refine wpAny_Call_Name_kw (ld_glob I hg hm ?_ hdb)
  refine PySem.W.callWith_K (h₀ := X.base) I.ok.mod.kin M.kp (thn (ha.run pos pins s σ H _ I h) fun us s1 ⟨vs, H1, I1, r, q⟩ => ⟨I1.kIn, ?_⟩) he hpl
  exact run_makeS M G0 hr hb (hx σ) I1 r q
end
/-- isinstance(e, c) in an except suite of any error -/
theorem call_isEx {X : Cx} {a : Addr} {oe : Obj} {cls : Value} {d : Option Addr} {pn : List (Addr × Obj)} (hz : Zc cls d oe) (hf : ∃ vs, oe.data = .fields vs) :
    CallR (X.suite a ((a, oe) :: pn)) (.builtin "isinstance") (fun xs H Q => ∃ D, cls = .ref D ∧ d = none ∧ ExcC X.K D ∧ rIsE X.K D a xs H Q) := by
  intro pins s σ H xs us Q I r h
  obtain ⟨D, rfl, rfl, c, q⟩ := h
  exact call_isE c hz hf pins s σ H xs us Q I r q
/-- an own class against an own class, against a built-in one -/
theorem kit_own {K : PySem.W.Frag} {C D : Addr} {b : Bool} (hi : PySem.W.isClsIn K D = true) (ht : PySem.W.typeIn K (.ref D) = some (.type "type")) (hs : PySem.W.subIn K (.ref C) (.ref D) = some b) (hne : C ≠ D ∨ b = true) : PySem.W.kitOne K (.ref C) (.ref D) = some b := by
  unfold PySem.W.kitOne
  by_cases e : C = D
  · rcases hne with h | h
    · exact absurd e h
    · rw [if_pos (by rw [e]; simp), h]
  · rw [if_neg (by simp [e])]
    show (if ((PySem.W.clsIn K D).isSome && PySem.W.typeIn K (.ref D) == some (.type "type")) = true then _ else _) = _
    rw [if_pos (by
      rw [ht]
      have : (PySem.W.clsIn K D).isSome = true := hi
      rw [this]; simp)]
    exact hs
theorem kit_ownT {K : PySem.W.Frag} {C : Addr} {T : String} {b : Bool} (hm : PySem.W.kitMeta T = true) (hs : PySem.W.subIn K (.ref C) (.type T) = some b) : PySem.W.kitOne K (.ref C) (.type T) = some b := by
  unfold PySem.W.kitOne PySem.W.kitCls
  rw [if_neg (by simp)]
  show (if PySem.W.kitMeta T = true then _ else _) = _
  rw [if_pos hm]
  exact hs
end My
set_option maxRecDepth 100000
set_option maxHeartbeats 4000000
namespace My
open PySem L2
def top (i : Nat) : Stmt := PySem.Challenge.pw_unbrokenrows_k01_share_totals_and_texts.main.body.getD i (.Pass ⟨0, 0, 0, 0⟩)
abbrev s_Share_init : Stmt := inClass (top 9) 0
abbrev s_Share_total : Stmt := inClass (top 9) 2
abbrev s_Share_add : Stmt := inClass (top 9) 3
abbrev s_Share_bool : Stmt := inClass (top 9) 9
abbrev s_Share_str : Stmt := inClass (top 9) 11
abbrev s_law_cell : Stmt := top 11
abbrev s_law_pool : Stmt := top 12
abbrev s_law_part : Stmt := top 13
abbrev s_law_common : Stmt := top 14
abbrev s_law_added : Stmt := top 15
abbrev s_law_text : Stmt := top 16
abbrev s_law_is : Stmt := top 17
abbrev s_law_refused : Stmt := top 18
abbrev s_law_parts : Stmt := top 19
abbrev s_law : Stmt := top 20
theorem sc_Share_init : FnScope ["self", "num", "den", "common"] ["self", "num", "den"] (defScope s_Share_init) := ⟨rfl, rfl, rfl, by decide +kernel, rfl, by decide +kernel, by decide +kernel⟩
theorem sc_Share_total : FnScope ["shares", "result", "share"] ["shares"] (defScope s_Share_total) := ⟨rfl, rfl, rfl, by decide +kernel, rfl, by decide +kernel, by decide +kernel⟩
theorem sc_Share_add : FnScope ["self", "other"] ["self", "other"] (defScope s_Share_add) := ⟨rfl, rfl, rfl, by decide +kernel, rfl, by decide +kernel, by decide +kernel⟩
theorem sc_Share_bool : FnScope ["self"] ["self"] (defScope s_Share_bool) := ⟨rfl, rfl, rfl, by decide +kernel, rfl, by decide +kernel, by decide +kernel⟩
theorem sc_Share_str : FnScope ["self"] ["self"] (defScope s_Share_str) := ⟨rfl, rfl, rfl, by decide +kernel, rfl, by decide +kernel, by decide +kernel⟩
theorem sc_law_cell : FnScope ["script", "k"] ["script", "k"] (defScope s_law_cell) := ⟨rfl, rfl, rfl, by decide +kernel, rfl, by decide +kernel, by decide +kernel⟩
theorem sc_law_pool : FnScope ["script", "k", "count", "value", "pool", "i", "first", "second", "third"] ["script", "k", "count"] (defScope s_law_pool) := ⟨rfl, rfl, rfl, by decide +kernel, rfl, by decide +kernel, by decide +kernel⟩
theorem sc_law_part : FnScope ["pool", "at", "kinds", "span", "draw"] ["pool", "at", "kinds"] (defScope s_law_part) := ⟨rfl, rfl, rfl, by decide +kernel, rfl, by decide +kernel, by decide +kernel⟩
theorem sc_law_common : FnScope ["one", "other"] ["one", "other"] (defScope s_law_common) := ⟨rfl, rfl, rfl, by decide +kernel, rfl, by decide +kernel, by decide +kernel⟩
theorem sc_law_added : FnScope ["parts", "num", "den", "part"] ["parts"] (defScope s_law_added) := ⟨rfl, rfl, rfl, by decide +kernel, rfl, by decide +kernel, by decide +kernel⟩
theorem sc_law_text : FnScope ["part", "common"] ["part"] (defScope s_law_text) := ⟨rfl, rfl, rfl, by decide +kernel, rfl, by decide +kernel, by decide +kernel⟩
theorem sc_law_is : FnScope ["found", "part", "common", "sign"] ["found", "part"] (defScope s_law_is) := ⟨rfl, rfl, rfl, by decide +kernel, rfl, by decide +kernel, by decide +kernel⟩
theorem sc_law_refused : FnScope ["num", "kinds", "e"] ["num"] (defScope s_law_refused) := ⟨rfl, rfl, rfl, by decide +kernel, rfl, by decide +kernel, by decide +kernel⟩
theorem sc_law_parts : FnScope ["script", "tops", "lows", "closing", "kinds", "parts", "i", "num", "den", "others", "whole"] ["script"] (defScope s_law_parts) := ⟨rfl, rfl, rfl, by decide +kernel, rfl, by decide +kernel, by decide +kernel⟩
theorem sc_law : FnScope ["script", "parts", "due", "shares", "total", "i", "extra", "part"] ["script"] (defScope s_law) := ⟨rfl, rfl, rfl, by decide +kernel, rfl, by decide +kernel, by decide +kernel⟩
/-! ### whole numbers in lowest terms -/
/-- n / d is a / b in lowest terms -/
structure Rep (n d a b : Int) : Prop where
  pos : 0 < d
  cop : Nat.gcd n.natAbs d.natAbs = 1
  eq : n * b = a * d
  nz : b ≠ 0
theorem Rep.ex {n d a b : Int} (r : Rep n d a b) : ∃ k : Int, k ≠ 0 ∧ a = n * k ∧ b = d * k := by
  have hd : d ∣ b := by
    have h1 : d ∣ n * b := ⟨a, by rw [r.eq, Int.mul_comm]⟩
    have h2 : d.natAbs ∣ n.natAbs * b.natAbs := by rw [← Int.natAbs_mul]; exact Int.natAbs_dvd_natAbs.mpr h1
    have h3 : d.natAbs ∣ b.natAbs := (Nat.Coprime.dvd_of_dvd_mul_left (show Nat.Coprime d.natAbs n.natAbs from by rw [Nat.Coprime, Nat.gcd_comm]; exact r.cop) h2)
    exact Int.natAbs_dvd_natAbs.mp h3
  obtain ⟨k, hk⟩ := hd
  refine ⟨k, ?_, ?_, hk⟩
  · intro h; subst h; exact r.nz (by rw [hk, Int.mul_zero])
  · have h := r.eq
    rw [hk, ← Int.mul_assoc, Int.mul_comm n d, Int.mul_assoc, Int.mul_comm a d] at h
    exact (Int.eq_of_mul_eq_mul_left (Int.ne_of_gt r.pos) h).symm
/-- the divisor that makes it so -/
def redG (a b : Int) : Int := if b < 0 then -((Nat.gcd a.natAbs b.natAbs : Nat) : Int) else ((Nat.gcd a.natAbs b.natAbs : Nat) : Int)
theorem redG_ne {a b : Int} (h : b ≠ 0) : redG a b ≠ 0 := by
  have : 0 < Nat.gcd a.natAbs b.natAbs := Nat.gcd_pos_of_pos_right _ (Int.natAbs_pos.mpr h)
  unfold redG; split <;> omega
theorem redG_abs (a b : Int) : (redG a b).natAbs = Nat.gcd a.natAbs b.natAbs := by
  unfold redG; split <;> simp
theorem redG_le {a b : Int} (h : b ≠ 0) : (redG a b).natAbs ≤ b.natAbs := by
  rw [redG_abs]; exact Nat.gcd_le_right _ (Int.natAbs_pos.mpr h)
theorem rep_of_mul {n d a b : Int} (h : b ≠ 0) (e1 : n * redG a b = a) (e2 : d * redG a b = b) : Rep n d a b := by
  have hg := redG_ne (a := a) h
  have hp : 0 < Nat.gcd a.natAbs b.natAbs := Nat.gcd_pos_of_pos_right _ (Int.natAbs_pos.mpr h)
  refine ⟨?_, ?_, ?_, h⟩
  · unfold redG at e2
    split at e2
    · rename_i hb
      rcases Int.lt_trichotomy d 0 with hd | hd | hd
      · have := Int.mul_pos_of_neg_of_neg hd (show -((Nat.gcd a.natAbs b.natAbs : Nat) : Int) < 0 by omega)
        omega
      · subst hd; rw [Int.zero_mul] at e2; omega
      · exact hd
    · rename_i hb
      rcases Int.lt_trichotomy d 0 with hd | hd | hd
      · have := Int.mul_neg_of_neg_of_pos hd (show (0 : Int) < ((Nat.gcd a.natAbs b.natAbs : Nat) : Int) by omega)
        omega
      · subst hd; rw [Int.zero_mul] at e2; omega
      · exact hd
  · have h1 : a.natAbs = n.natAbs * Nat.gcd a.natAbs b.natAbs := by rw [← redG_abs a b, ← Int.natAbs_mul, e1]
    have h2 : b.natAbs = d.natAbs * Nat.gcd a.natAbs b.natAbs := by rw [← redG_abs a b, ← Int.natAbs_mul, e2]
    have h3 : Nat.gcd (n.natAbs * Nat.gcd a.natAbs b.natAbs) (d.natAbs * Nat.gcd a.natAbs b.natAbs) = Nat.gcd a.natAbs b.natAbs := by rw [← h1, ← h2]
    rw [Nat.gcd_mul_right] at h3
    have h4 : Nat.gcd n.natAbs d.natAbs * Nat.gcd a.natAbs b.natAbs = 1 * Nat.gcd a.natAbs b.natAbs := by rw [h3, Nat.one_mul]
    exact Nat.eq_of_mul_eq_mul_right hp h4
  · calc n * b = n * (d * redG a b) := by rw [e2]
      _ = (n * redG a b) * d := by rw [Int.mul_comm d, Int.mul_assoc]
      _ = a * d := by rw [e1]
theorem red_rep {a b : Int} (h : b ≠ 0) : Rep (a.fdiv (redG a b)) (b.fdiv (redG a b)) a b := by
  have hg := redG_ne (a := a) h
  have d1 : redG a b ∣ a := by rw [← Int.natAbs_dvd_natAbs, redG_abs]; exact Nat.gcd_dvd_left ..
  have d2 : redG a b ∣ b := by rw [← Int.natAbs_dvd_natAbs, redG_abs]; exact Nat.gcd_dvd_right ..
  exact rep_of_mul h (Int.fdiv_mul_cancel d1) (Int.fdiv_mul_cancel d2)
/-- and the other way -/
theorem Rep.muls {n d a b : Int} (r : Rep n d a b) : n * redG a b = a ∧ d * redG a b = b := by
  obtain ⟨k, hk, ea, eb⟩ := r.ex
  have e : redG a b = k := by
    unfold redG
    have e1 : Nat.gcd a.natAbs b.natAbs = k.natAbs := by rw [ea, eb, Int.natAbs_mul, Int.natAbs_mul, Nat.gcd_mul_right, r.cop, Nat.one_mul]
    rw [e1]
    have hp := r.pos
    split
    · rename_i hb
      have : k < 0 := by
        rcases Int.lt_trichotomy k 0 with h | h | h
        · exact h
        · exact absurd h hk
        · have := Int.mul_pos hp h; omega
      omega
    · rename_i hb
      have : 0 < k := by
        rcases Int.lt_trichotomy k 0 with h | h | h
        · have := Int.mul_neg_of_pos_of_neg hp h; omega
        · exact absurd h hk
        · exact h
      omega
  rw [e]
  exact ⟨ea.symm, eb.symm⟩
theorem Rep.le {n d a b : Int} (r : Rep n d a b) : n.natAbs ≤ a.natAbs ∧ d.natAbs ≤ b.natAbs := by
  obtain ⟨k, hk, ea, eb⟩ := r.ex
  have : 1 ≤ k.natAbs := Int.natAbs_pos.mpr hk
  rw [ea, eb, Int.natAbs_mul, Int.natAbs_mul]
  exact ⟨Nat.le_mul_of_pos_right _ this, Nat.le_mul_of_pos_right _ this⟩
/-- the same fraction in other terms -/
theorem Rep.to {n d a b x y : Int} (r : Rep n d x y) (hb : b ≠ 0) (e : x * b = a * y) : Rep n d a b := by
  refine ⟨r.pos, r.cop, ?_, hb⟩
  have h := r.eq
  have hy := r.nz
  refine Int.eq_of_mul_eq_mul_left hy ?_
  calc y * (n * b) = (n * y) * b := by rw [Int.mul_comm n y, Int.mul_assoc]
    _ = x * d * b := by rw [h]
    _ = (x * b) * d := by rw [Int.mul_assoc, Int.mul_comm d b, Int.mul_assoc]
    _ = a * y * d := by rw [e]
    _ = y * (a * d) := by rw [Int.mul_comm a y, Int.mul_assoc]
theorem sz {i : Int} {k m : Nat} (h : i.natAbs < 2 ^ k) (hk : k ≤ m) : i.natAbs < 2 ^ m := Nat.lt_of_lt_of_le h (Nat.pow_le_pow_right (by decide) hk)
theorem sz_mul {i j : Int} {k m : Nat} (h : i.natAbs < 2 ^ k) (h' : j.natAbs < 2 ^ m) : (i * j).natAbs < 2 ^ (k + m) := wide_lt h h'
theorem sz_add {i j : Int} {k : Nat} (h : i.natAbs < 2 ^ k) (h' : j.natAbs < 2 ^ k) : (i + j).natAbs < 2 ^ (k + 1) := by
  have : (i + j).natAbs ≤ i.natAbs + j.natAbs := Int.natAbs_add_le ..
  rw [Nat.pow_succ]; omega
theorem sz_sub {i j : Int} {k : Nat} (h : i.natAbs < 2 ^ k) (h' : j.natAbs < 2 ^ k) : (i - j).natAbs < 2 ^ (k + 1) := by
  have : (i - j).natAbs ≤ i.natAbs + j.natAbs := Int.natAbs_sub_le ..
  rw [Nat.pow_succ]; omega
theorem sz_neg {i : Int} {k : Nat} (h : i.natAbs < 2 ^ k) : (-i).natAbs < 2 ^ k := by rw [Int.natAbs_neg]; exact h
end My
set_option maxRecDepth 100000
set_option maxHeartbeats 4000000
namespace My
open PySem L2
/-- where the defs and classes stand -/
structure Ad where
  C_Share : Addr
  C_RowsError : Addr
  C_Unknown : Addr
  C_Impossible : Addr
  C_BadShare : Addr
  C_BadNumber : Addr
  p_Share_total : Addr
  a_Share_init : Addr
  d_Share_init : FuncData
  a_Share_total : Addr
  d_Share_total : FuncData
  a_Share_add : Addr
  d_Share_add : FuncData
  a_Share_bool : Addr
  d_Share_bool : FuncData
  a_Share_str : Addr
  d_Share_str : FuncData
  a_law_cell : Addr
  d_law_cell : FuncData
  a_law_pool : Addr
  d_law_pool : FuncData
  a_law_part : Addr
  d_law_part : FuncData
  a_law_common : Addr
  d_law_common : FuncData
  a_law_added : Addr
  d_law_added : FuncData
  a_law_text : Addr
  d_law_text : FuncData
  a_law_is : Addr
  d_law_is : FuncData
  a_law_refused : Addr
  d_law_refused : FuncData
  a_law_parts : Addr
  d_law_parts : FuncData
  a_law : Addr
  d_law : FuncData
/-- what the top has written -/
structure Txt (K : PySem.W.Frag) (mg : Str → Option Value) (A : Ad) : Prop where
  mg_Share : mg "Share" = some (.ref A.C_Share)
  cl_Share : Cls K A.C_Share
  sf_Share : PySem.W.selfFirst K A.C_Share = true
  mk_Share : Mk K A.C_Share A.a_Share_init
  c1_Share : PySem.W.findIn K (.ref A.C_Share) "__class__" = some (some (.builtin "object.__class__"))
  c3_Share : PySem.W.mroIn K A.C_Share (.type "object") = some true
  n_Share_num : NoAttr K A.C_Share "num"
  n_Share_den : NoAttr K A.C_Share "den"
  c2 : PySem.W.specialIn K (.builtin "object.__class__") "__get__" = some (some (.builtin "getset_descriptor.__get__"))
  c4 : PySem.W.takesIn K (.builtin "object.__class__") = some true
  mg_RowsError : mg "RowsError" = some (.ref A.C_RowsError)
  tp_RowsError : PySem.W.typeIn K (.ref A.C_RowsError) = some (.type "type")
  ic_RowsError : PySem.W.isClsIn K A.C_RowsError = true
  mg_Unknown : mg "Unknown" = some (.ref A.C_Unknown)
  tp_Unknown : PySem.W.typeIn K (.ref A.C_Unknown) = some (.type "type")
  ic_Unknown : PySem.W.isClsIn K A.C_Unknown = true
  mg_Impossible : mg "Impossible" = some (.ref A.C_Impossible)
  tp_Impossible : PySem.W.typeIn K (.ref A.C_Impossible) = some (.type "type")
  ic_Impossible : PySem.W.isClsIn K A.C_Impossible = true
  mg_BadShare : mg "BadShare" = some (.ref A.C_BadShare)
  tp_BadShare : PySem.W.typeIn K (.ref A.C_BadShare) = some (.type "type")
  ic_BadShare : PySem.W.isClsIn K A.C_BadShare = true
  mg_BadNumber : mg "BadNumber" = some (.ref A.C_BadNumber)
  tp_BadNumber : PySem.W.typeIn K (.ref A.C_BadNumber) = some (.type "type")
  ic_BadNumber : PySem.W.isClsIn K A.C_BadNumber = true
  x_BadShare : PySem.W.excIn K A.C_BadShare [.type "ValueError", .type "Exception", .type "BaseException", .type "object"] "ValueError.__new__" = true
  k_BadShare : PySem.W.keepIn K (.ref A.C_BadShare) = true
  bp_BadShare : PySem.W.subIn K (.ref A.C_BadShare) (.type "BaseException") = some true
  sv_BadShare : PySem.W.subIn K (.ref A.C_BadShare) (.type "ValueError") = some true
  ss_BadShare : PySem.W.subIn K (.ref A.C_BadShare) (.ref A.C_BadShare) = some true
  su_BadShare_RowsError : PySem.W.subIn K (.ref A.C_BadShare) (.ref A.C_RowsError) = some true
  su_BadShare_Unknown : PySem.W.subIn K (.ref A.C_BadShare) (.ref A.C_Unknown) = some false
  su_BadShare_Impossible : PySem.W.subIn K (.ref A.C_BadShare) (.ref A.C_Impossible) = some false
  su_BadShare_BadNumber : PySem.W.subIn K (.ref A.C_BadShare) (.ref A.C_BadNumber) = some false
  e1_BadShare : PySem.W.findIn K (.ref A.C_BadShare) "__getattribute__" = some (some (.builtin "BaseException.__getattribute__"))
  e2_BadShare : PySem.W.findIn K (.ref A.C_BadShare) "__getattr__" = some none
  e3_BadShare : PySem.W.hasDictIn K A.C_BadShare = true
  e4_BadShare : PySem.W.findIn K (.ref A.C_BadShare) "__class__" = some (some (.builtin "object.__class__"))
  e5_BadShare : PySem.W.mroIn K A.C_BadShare (.type "object") = some true
  cr_Share : ClX.CRead K A.C_Share (.type "type")
  sm_Share_total : SMet K A.C_Share (.type "type") "total" A.p_Share_total A.a_Share_total
  n_abs : mg "abs" = none
  n_int : mg "int" = none
  n_bool : mg "bool" = none
  n_isinstance : mg "isinstance" = none
  n_range : mg "range" = none
  n_len : mg "len" = none
  n_str : mg "str" = none
  n_tuple : mg "tuple" = none
  n_ValueError : mg "ValueError" = none
  mg_gcd : mg "gcd" = some (.builtin "math.gcd")
  sx_Share : PySem.W.subIn K (.ref A.C_Share) (.type "int") = some false
  F_Share_init : FunD K "__init__" "Share.__init__" (defArgs s_Share_init) (defBody s_Share_init) (defScope s_Share_init) [.int 1] [] A.a_Share_init A.d_Share_init
  m_Share_init : Meth K A.C_Share "__init__" A.a_Share_init
  F_Share_total : Fun K "total" "Share.total" s_Share_total A.a_Share_total A.d_Share_total
  b_Share_total : Binds K A.d_Share_total ["shares"] []
  F_Share_add : Fun K "__add__" "Share.__add__" s_Share_add A.a_Share_add A.d_Share_add
  b_Share_add : Binds K A.d_Share_add ["self", "other"] []
  m_Share_add : Meth K A.C_Share "__add__" A.a_Share_add
  ds_Share_add : PySem.W.findIn K (.ref A.C_Share) (PySem.dunder "add") = some (some (.ref A.a_Share_add))
  F_Share_bool : Fun K "__bool__" "Share.__bool__" s_Share_bool A.a_Share_bool A.d_Share_bool
  b_Share_bool : Binds K A.d_Share_bool ["self"] []
  m_Share_bool : Meth K A.C_Share "__bool__" A.a_Share_bool
  F_Share_str : Fun K "__str__" "Share.__str__" s_Share_str A.a_Share_str A.d_Share_str
  b_Share_str : Binds K A.d_Share_str ["self"] []
  m_Share_str : Meth K A.C_Share "__str__" A.a_Share_str
  F_law_cell : Fun K "_law_cell" "_law_cell" s_law_cell A.a_law_cell A.d_law_cell
  b_law_cell : Binds K A.d_law_cell ["script", "k"] []
  mg_law_cell : mg "_law_cell" = some (.ref A.a_law_cell)
  F_law_pool : Fun K "_law_pool" "_law_pool" s_law_pool A.a_law_pool A.d_law_pool
  b_law_pool : Binds K A.d_law_pool ["script", "k", "count"] []
  mg_law_pool : mg "_law_pool" = some (.ref A.a_law_pool)
  F_law_part : Fun K "_law_part" "_law_part" s_law_part A.a_law_part A.d_law_part
  b_law_part : Binds K A.d_law_part ["pool", "at", "kinds"] []
  mg_law_part : mg "_law_part" = some (.ref A.a_law_part)
  F_law_common : Fun K "_law_common" "_law_common" s_law_common A.a_law_common A.d_law_common
  b_law_common : Binds K A.d_law_common ["one", "other"] []
  mg_law_common : mg "_law_common" = some (.ref A.a_law_common)
  F_law_added : Fun K "_law_added" "_law_added" s_law_added A.a_law_added A.d_law_added
  b_law_added : Binds K A.d_law_added ["parts"] []
  mg_law_added : mg "_law_added" = some (.ref A.a_law_added)
  F_law_text : Fun K "_law_text" "_law_text" s_law_text A.a_law_text A.d_law_text
  b_law_text : Binds K A.d_law_text ["part"] []
  mg_law_text : mg "_law_text" = some (.ref A.a_law_text)
  F_law_is : Fun K "_law_is" "_law_is" s_law_is A.a_law_is A.d_law_is
  b_law_is : Binds K A.d_law_is ["found", "part"] []
  mg_law_is : mg "_law_is" = some (.ref A.a_law_is)
  F_law_refused : Fun K "_law_refused" "_law_refused" s_law_refused A.a_law_refused A.d_law_refused
  b_law_refused : Binds K A.d_law_refused ["num"] []
  mg_law_refused : mg "_law_refused" = some (.ref A.a_law_refused)
  F_law_parts : Fun K "_law_parts" "_law_parts" s_law_parts A.a_law_parts A.d_law_parts
  b_law_parts : Binds K A.d_law_parts ["script"] []
  mg_law_parts : mg "_law_parts" = some (.ref A.a_law_parts)
  F_law : Fun K "law" "law" s_law A.a_law A.d_law
  b_law : Binds K A.d_law ["script"] []
  mg_law : mg "law" = some (.ref A.a_law)
/-- // by any divisor but 0 below 2 ^ 9000 -/
def CDivX (_ j : Int) : Prop := j ≠ 0 ∧ j.natAbs < 2 ^ 9000
theorem op_fdivX {X : Cx} : OpR X (binaryOp .FloorDiv) (rI CDivX fun i j => .int (i.fdiv j)) := opI fun i j _ _ _ _ _ hc q =>
  PyProof.Rows.floordiv_int hc.1 q (.inl (PyProof.noPylong_of_log2 (PySem.Flt.log2_lt_of (by decide) hc.2)))
/-! ### a share -/
theorem knd : ¬ (("num" : Str) = "den") := by decide +kernel
def flds (n d : Int) : List (Str × V) := putF "den" (.int d) (putF "num" (.int n) [])
theorem flds_num (n d : Int) : (flds n d).lookup ("num" : Str) = some (.int n) := by
  unfold flds; rw [lookup_putF, if_neg knd, lookup_putF, if_pos rfl]
theorem flds_den (n d : Int) : (flds n d).lookup ("den" : Str) = some (.int d) := by
  unfold flds; rw [lookup_putF, if_pos rfl]
/-- the share n / d stands at p -/
def Sh (C : Addr) (H : Hp) (p : Addr) (n d : Int) : Prop := ∃ dx, H p = some (.ins C dx (flds n d))
theorem Sh.same {C : Addr} {H H' : Hp} {p : Addr} {n d : Int} (h : Sh C H p n d) (e : Same H H') : Sh C H' p n d := let ⟨dx, h⟩ := h; ⟨dx, e _ _ h⟩
abbrev SzN (i : Int) : Prop := i.natAbs < 2 ^ 4000
theorem itN {c A B : Prop} [Decidable c] (hc : ¬ c) (h : B) : if decide c = true then A else B := by
  rw [decide_eq_false hc]; exact iteF h
theorem itY {c A B : Prop} [Decidable c] (hc : c) (h : A) : if decide c = true then A else B := by
  rw [decide_eq_true hc]; exact iteT h
def spInit (C : Addr) : Sp := fun vs H Q _ => ∃ (p dx : Addr) (a b : Int), vs = [.ref p, .int a, .int b] ∧ H p = some (.ins C dx []) ∧ b ≠ 0 ∧ b.natAbs < 2 ^ 9000 ∧
  ∀ n d, Rep n d a b → Q .non (upd H p (.ins C dx (flds n d)))
/-- the shares' promise: what comes back is num / den in lowest terms -/
def Gives (C : Addr) (H : Hp) (Q : VK) (num den : Int) : Prop := ∀ r n d H', Same H H' → Sh C H' r n d → Rep n d num den → Q (.ref r) H'
def sp2 (C : Addr) (num den : Int → Int → Int → Int → Int) : Sp := fun vs H Q _ => ∃ (p q : Addr) (n d m e : Int), vs = [.ref p, .ref q] ∧ Sh C H p n d ∧ Sh C H q m e ∧ 0 < d ∧ 0 < e ∧ SzN n ∧ SzN d ∧ SzN m ∧ SzN e ∧
  Gives C H Q (num n d m e) (den n d m e)
def spI (C : Addr) : Sp := fun vs H Q _ => ∃ (p : Addr) (n d k : Int), vs = [.ref p, .int k] ∧ Sh C H p n d ∧ 0 < d ∧ SzN n ∧ SzN d ∧ SzN k ∧ Gives C H Q (n * k) d
def sp1 (C : Addr) (num : Int → Int) : Sp := fun vs H Q _ => ∃ (p : Addr) (n d : Int), vs = [.ref p] ∧ Sh C H p n d ∧ 0 < d ∧ SzN n ∧ SzN d ∧ Gives C H Q (num n) d
def spBool (C : Addr) : Sp := fun vs H Q _ => ∃ (p : Addr) (n d : Int), vs = [.ref p] ∧ Sh C H p n d ∧ Q (.bl (n != 0)) H
def spCmp (C : Addr) (f : Int → Int → Int → Int → Bool) : Sp := fun vs H Q _ => ∃ (p q : Addr) (n d m e : Int), vs = [.ref p, .ref q] ∧ Sh C H p n d ∧ Sh C H q m e ∧ SzN n ∧ SzN d ∧ SzN m ∧ SzN e ∧ Q (.bl (f n d m e)) H
section
variable {P : Program} {w : World} {K : PySem.W.Frag} {mg : Str → Option Value} {base : Heap} {A : Ad}
theorem Txt.ko_self (T : Txt K mg A) : PySem.W.kitOne K (.ref A.C_Share) (.ref A.C_Share) = some true := by
  unfold PySem.W.kitOne
  rw [if_pos (by simp)]
theorem Txt.ko_int (T : Txt K mg A) : PySem.W.kitOne K (.ref A.C_Share) (.type "int") = some false := by
  unfold PySem.W.kitOne PySem.W.kitCls
  rw [if_neg (by simp)]
  show (if PySem.W.kitMeta "int" = true then _ else _) = _
  rw [if_pos (by decide +kernel)]
  exact T.sx_Share
theorem Txt.bi (T : Txt K mg A) : Binds K A.d_Share_init ["self", "num", "den"] [] := by
  obtain ⟨ds, hv, hb⟩ := T.F_Share_init.binds1 (ps := ["self", "num", "den"]) 3 1 (by simp) rfl (fun T kV dc pm an cd ct us its hl hi => by
    match us, hl, its, hi with
    | [_, _, _], _, [_], _ => exact ⟨_, rfl, rfl⟩)
  cases hv
  exact hb
theorem Txt.bi1 (T : Txt K mg A) : ∃ ds, Vals [V.int 1] ds ∧ Binds K A.d_Share_init ["self", "num", "den"] ds := by
  obtain ⟨ds, hv, hb⟩ := T.F_Share_init.binds1 (ps := ["self", "num", "den"]) 2 0 (by simp) rfl (fun T kV dc pm an cd ct us its hl hi => by
    match us, hl, its, hi with
    | [_, _], _, [_], _ => exact ⟨_, rfl, rfl⟩)
  exact ⟨ds, hv, hb⟩
theorem ok_init (T : Txt K mg A) : FnOk P w K mg base CX0 1 A.a_Share_init A.d_Share_init ["self", "num", "den"] (spInit A.C_Share) := by
  refine T.F_Share_init.ok sc_Share_init (fun vs H Q E h => ?_) (fun cdv A' outer s H vs Q E hr h => ?_)
  · obtain ⟨p, dx, a, b, rfl, _⟩ := h
    rfl
  · obtain ⟨p, dx, a, b, rfl, hp, hb, hz, k⟩ := h
    refine ⟨_, (pss_cons (ps_if (pt_cmpR op_eq (pv 2) pe_int (nomark _)) (pss_one ps_never) pss_nil)
      (pss_cons (ps_set (i := 3) sc_Share_init.nd rfl (Or.inl rfl) (pe_callBfun cr_gcd rfl T.mg_gcd (pa_cons (pv 1) (pa_cons (pv 2) pa_nil))))
      (pss_cons (ps_if (pt_cmpR op_lt (pv 2) pe_int (nomark _)) (pss_one (ps_set (i := 3) sc_Share_init.nd rfl (Or.inl rfl) (pe_un un_neg (pv 3)))) pss_nil)
      (pss_cons (ps_fld (pv 0) (pe_op op_fdivX (pv 1) (pv 3)) rfl)
      (pss_one (ps_fld (pv 0) (pe_op op_fdivX (pv 2) (pv 3)) rfl)))))), ?_⟩
    refine ⟨_, rfl, rfl, _, rfl, itN (fun z => hb (by injection z)) ?_⟩
    refine ⟨_, rfl, _, rfl, a, b, rfl, ?_⟩
    refine ⟨_, rfl, _, _, rfl, rfl, _, rfl, ?_⟩
    have e0 : ∀ c : Int, c = redG a b → CDivX a c ∧ CDivX b c := fun c hc => by
      subst hc
      have h1 := redG_ne (a := a) hb
      have h2 := redG_le (a := a) hb
      exact ⟨⟨h1, by omega⟩, ⟨h1, by omega⟩⟩
    have rr := red_rep (a := a) hb
    by_cases hn : b < 0
    · refine itY hn ?_
      refine ⟨_, rfl, _, rfl, ?_⟩
      have ec : -((Nat.gcd a.natAbs b.natAbs : Nat) : Int) = redG a b := by unfold redG; rw [if_pos hn]
      refine ⟨_, rfl, _, rfl, _, _, rfl, rfl, (e0 _ ec).1, _, rfl, p, A.C_Share, dx, [], rfl, hp, T.cl_Share, T.n_Share_num, (by show 0 < 1000; decide), ?_⟩
      refine ⟨_, rfl, _, rfl, _, _, rfl, rfl, (e0 _ ec).2, _, rfl, p, A.C_Share, dx, _, rfl, upd_same, T.cl_Share, T.n_Share_den, (by show 1 < 1000; decide), ?_⟩
      have := k _ _ rr
      rw [← ec] at this
      rw [upd_upd]
      exact this
    · refine itN hn ?_
      have ec : ((Nat.gcd a.natAbs b.natAbs : Nat) : Int) = redG a b := by unfold redG; rw [if_neg hn]
      refine ⟨_, rfl, _, rfl, _, _, rfl, rfl, (e0 _ ec).1, _, rfl, p, A.C_Share, dx, [], rfl, hp, T.cl_Share, T.n_Share_num, (by show 0 < 1000; decide), ?_⟩
      refine ⟨_, rfl, _, rfl, _, _, rfl, rfl, (e0 _ ec).2, _, rfl, p, A.C_Share, dx, _, rfl, upd_same, T.cl_Share, T.n_Share_den, (by show 1 < 1000; decide), ?_⟩
      have := k _ _ rr
      rw [← ec] at this
      rw [upd_upd]
      exact this
/-- an instance of the class is one, and no whole number -/
theorem Txt.ty (T : Txt K mg A) {H : Hp} {p : Addr} {n d : Int} (h : Sh A.C_Share H p n d) : TyX K H (.ref p) (.ref A.C_Share) := by
  obtain ⟨dx, h⟩ := h
  exact .base (.ins h T.cl_Share T.c1_Share T.c2 T.c4 T.c3_Share)
/-- Share(a, b) in a def: the way from the making to what is promised -/
theorem make_gives {H1 : Hp} {Q : VK} {E : XK} {C : Addr} {a b : Int} (hb : b ≠ 0) (hz : b.natAbs < 2 ^ 9000) (k : Gives C H1 Q a b) : ∀ x dx, H1 x = none → H1 dx = none → dx ≠ x →
    spInit C (.ref x :: ([.int a, .int b] ++ [])) (upd (upd H1 dx (.own x)) x (.ins C dx [])) (fun v H2 => v = .non ∧ Q (.ref x) H2) E := by
  intro x dx nx ndx nex
  refine ⟨x, dx, a, b, rfl, upd_same, hb, hz, fun n d r => ⟨rfl, k x n d _ (fun b' o e => ?_) ⟨dx, upd_same⟩ r⟩⟩
  rw [upd_ne (ne_of_none e nx), upd_ne (ne_of_none e nx), upd_ne (ne_of_none e ndx)]
  exact e
theorem mulW {i j : Int} (hi : i.natAbs < 2 ^ 9000) (hj : j.natAbs < 2 ^ 9000) : CMulW i j := wide_mul hi hj (by decide) (by decide) (by decide)
theorem SzN.big {i : Int} (h : SzN i) : i.natAbs < 2 ^ 9000 := sz h (by decide)
theorem ok_add (T : Txt K mg A) : FnOk P w K mg base CX0 3 A.a_Share_add A.d_Share_add ["self", "other"] (sp2 A.C_Share (fun n d m e => n * e + m * d) (fun _ d _ e => d * e)) := by
  have G_Share_init : FnOk P w K mg base CX0 1 A.a_Share_init A.d_Share_init ["self", "num", "den"] (spInit A.C_Share) := ok_init T
  refine T.F_Share_add.ok sc_Share_add (fun vs H Q E h => ?_) (fun cdv A' outer s H vs Q E hr h => ?_)
  · obtain ⟨p, q, n, d, m, e, rfl, _⟩ := h
    rfl
  · obtain ⟨p, q, n, d, m, e, rfl, h1, h2, hd, he, zn, zd, zm, ze, k⟩ := h
    have h1' := id h1
    have h2' := id h2
    obtain ⟨dx, h1⟩ := h1
    obtain ⟨dy, h2⟩ := h2
    refine ⟨_, (pss_cons (ps_if (pt_not (pt_val (pe_callB call_isi (by rfl) T.n_isinstance (by decide +kernel) (pa_cons (pv 1) (pa_cons (pe_glob (v := .ref A.C_Share) rfl T.mg_Share rfl) pa_nil))))) (pss_one ps_never) pss_nil)
      (pss_one (ps_ret (pe_make T.mk_Share G_Share_init (hr.mono (by decide)) rfl T.mg_Share T.bi .nil pass0 (pa_cons (pe_op op_add (pe_op op_mulW (pe_fld (pv 0) rfl) (pe_fld (pv 1) rfl)) (pe_op op_mulW (pe_fld (pv 1) rfl) (pe_fld (pv 0) rfl))) (pa_cons (pe_op op_mulW (pe_fld (pv 0) rfl) (pe_fld (pv 1) rfl)) pa_nil)))))), ?_⟩
    refine ⟨_, rfl, _, _, _, _, true, rfl, .own _, T.ty h2', T.ko_self, true, rfl, ?_⟩
    refine iteF ?_
    refine ⟨_, rfl, p, _, dx, _, _, rfl, h1, T.cl_Share, T.n_Share_num, flds_num _ _, _, rfl, q, _, dy, _, _, rfl, h2, T.cl_Share, T.n_Share_den, flds_den _ _, _, _, rfl, rfl, mulW zn.big ze.big, ?_⟩
    refine ⟨_, rfl, q, _, dy, _, _, rfl, h2, T.cl_Share, T.n_Share_num, flds_num _ _, _, rfl, p, _, dx, _, _, rfl, h1, T.cl_Share, T.n_Share_den, flds_den _ _, _, _, rfl, rfl, mulW zm.big zd.big, _, _, rfl, rfl, ?_⟩
    refine ⟨_, rfl, p, _, dx, _, _, rfl, h1, T.cl_Share, T.n_Share_den, flds_den _ _, _, rfl, q, _, dy, _, _, rfl, h2, T.cl_Share, T.n_Share_den, flds_den _ _, _, _, rfl, rfl, mulW zd.big ze.big, ?_⟩
    exact make_gives (Int.mul_ne_zero (Int.ne_of_gt hd) (Int.ne_of_gt he)) (sz (sz_mul zd ze) (by decide)) k
theorem ok_bool (T : Txt K mg A) : FnOk P w K mg base CX0 1 A.a_Share_bool A.d_Share_bool ["self"] (spBool A.C_Share) := by
  refine T.F_Share_bool.ok sc_Share_bool (fun vs H Q E h => ?_) (fun cdv A' outer s H vs Q E hr h => ?_)
  · obtain ⟨p, n, d, rfl, _⟩ := h
    rfl
  · obtain ⟨p, n, d, rfl, h1, k⟩ := h
    obtain ⟨dx, h1⟩ := h1
    refine ⟨_, (pss_one (ps_ret (pe_callTy call_bool1 (by rfl) T.n_bool (by decide +kernel) (pa_cons (pe_fld (pv 0) rfl) pa_nil)))), ?_⟩
    exact ⟨_, rfl, _, _, _, _, _, rfl, h1, T.cl_Share, T.n_Share_num, flds_num _ _, .inl ⟨_, rfl, k⟩⟩
end
end My
set_option maxRecDepth 100000
set_option maxHeartbeats 4000000
set_option exponentiation.threshold 10000
namespace My
open PySem L2
theorem atI_ok {xs : List Int} {j : Int} (h0 : 0 ≤ j) (h1 : j < xs.length) : ∃ v, v ∈ xs ∧ atI (xs.map V.int) j = some (V.int v) := by
  have hj : j.toNat < xs.length := by omega
  refine ⟨xs[j.toNat], List.getElem_mem hj, ?_⟩
  have e : (xs.map V.int)[j.toNat]? = some (V.int xs[j.toNat]) := by rw [List.getElem?_map, List.getElem?_eq_getElem hj]; rfl
  have := atI_nat e
  rw [show ((j.toNat : Nat) : Int) = j by omega] at this
  exact this
theorem len_map_int (xs : List Int) : (xs.map V.int).length = xs.length := List.length_map ..
theorem small_int {n : Nat} (h : n ≤ 1000000) : n < sizeLine := Nat.lt_of_le_of_lt h (by decide)
/-- a pool of draws -/
def Pool (ns : List Int) : Prop := ∀ x ∈ ns, 0 ≤ x ∧ x < 27720
theorem Pool.nil : Pool [] := fun x h => nomatch h
theorem Pool.app {ns : List Int} {x : Int} (h : Pool ns) (h0 : 0 ≤ x) (h1 : x < 27720) : Pool (ns ++ [x]) := fun y hy => by
  rcases List.mem_append.mp hy with hy | hy
  · exact h y hy
  · cases List.mem_singleton.mp hy; exact ⟨h0, h1⟩
theorem same_new {H : Hp} {l : Addr} {o : HO} (h : H l = none) : Same H (upd H l o) := fun b u e => by rw [upd_ne (ne_of_none e h)]; exact e
theorem upd_app {H : Hp} {l : Addr} {ps : List Int} {x : Int} : upd (upd H l (.lst (ps.map V.int))) l (.lst (ps.map V.int ++ [V.int x])) = upd H l (.lst ((ps ++ [x]).map V.int)) := by
  rw [upd_upd, List.map_append]
  rfl
theorem mod_sz {x m : Int} {k : Nat} (h : 0 < m) (hk : m.natAbs < 2 ^ k) : (x % m).natAbs < 2 ^ k := by
  have h1 := Int.emod_nonneg x (Int.ne_of_gt h)
  have h2 := Int.emod_lt_of_pos x h
  omega
def spCell (K : PySem.W.Frag) : Sp := fun vs H Q _ => ∃ (a : Addr) (ns : List Int) (k : Int), vs = [.ref a, .int k] ∧ SqL K H a (ns.map V.int) ∧ 0 ≤ k ∧ ∀ z, Q (.int z) H
def spPool (K : PySem.W.Frag) : Sp := fun vs H Q _ => ∃ (a : Addr) (ns : List Int) (k c : Int), vs = [.ref a, .int k, .int c] ∧ SqL K H a (ns.map V.int) ∧ 0 ≤ k ∧ 0 ≤ c ∧ c ≤ 1000 ∧
  ∀ p ps H', Same H H' → H' p = some (.lst (ps.map V.int)) → (ps.length : Int) = c → Pool ps → Q (.ref p) H'
def spCommon : Sp := fun vs H Q _ => ∃ (a b : Int), vs = [.int a, .int b] ∧ Q (.int ((Nat.gcd a.natAbs b.natAbs : Nat) : Int)) H
section
variable {P : Program} {w : World} {K : PySem.W.Frag} {mg : Str → Option Value} {base : Heap} {A : Ad}
theorem ok_cell (T : Txt K mg A) : FnOk P w K mg base CX0 1 A.a_law_cell A.d_law_cell ["script", "k"] (spCell K) := by
  refine T.F_law_cell.ok sc_law_cell (fun vs H Q E h => ?_) (fun cdv A' outer s H vs Q E hr h => ?_)
  · obtain ⟨a, ns, k, rfl, _⟩ := h
    rfl
  · obtain ⟨a, ns, i, rfl, hS, h0, k⟩ := h
    refine ⟨_, (pss_cons (ps_if (pt_cmpR op_lt (pv 1) (pe_callB call_len_seq (by rfl) T.n_len (by decide +kernel) (pa_cons (pv 0) pa_nil)) (nomark _)) (pss_one (ps_ret (pe_ix ix_list (pv 0) (pv 1) (fun _ _ => rfl)))) pss_nil)
      (pss_one (ps_ret pe_int))), ?_⟩
    refine ⟨_, rfl, _, rfl, _, _, rfl, .inl hS, _, _, rfl, rfl, _, rfl, ?_⟩
    by_cases hi : i < ((ns.map V.int).length : Int)
    · refine itY hi ?_
      obtain ⟨v, hv, e⟩ := atI_ok (xs := ns) h0 (by rw [len_map_int] at hi; exact hi)
      exact ⟨_, rfl, _, rfl, _, _, _, _, rfl, rfl, hS, e, k v⟩
    · refine itN hi ?_
      exact k 0
theorem ok_pool (T : Txt K mg A) : FnOk P w K mg base CX0 2 A.a_law_pool A.d_law_pool ["script", "k", "count"] (spPool K) := by
  have G_law_cell : FnOk P w K mg base CX0 1 A.a_law_cell A.d_law_cell ["script", "k"] (spCell K) := ok_cell T
  refine T.F_law_pool.ok sc_law_pool (fun vs H Q E h => ?_) (fun cdv A' outer s H vs Q E hr h => ?_)
  · obtain ⟨a, ns, k, c, rfl, _⟩ := h
    rfl
  · obtain ⟨a, ns, i, c, rfl, hS, h0, hc0, hc, k⟩ := h
    refine ⟨_, (pss_cons (ps_set (i := 3) sc_law_pool.nd rfl (Or.inl rfl) (pe_callB call_abs (by rfl) T.n_abs (by decide +kernel) (pa_cons (pe_call G_law_cell (hr.mono (by decide)) rfl T.mg_law_cell T.F_law_cell.kp T.b_law_cell .nil pass0 (pa_cons (pv 0) (pa_cons (pv 1) pa_nil))) pa_nil)))
      (pss_cons (ps_set (i := 4) sc_law_pool.nd rfl (Or.inl rfl) (pe_lst pa_nil))
      (pss_cons (ps_if (pt_cmpR op_ge (pv 3) (pe_op op_pow pe_int pe_int) (nomark _)) (pss_cons (ps_set (i := 3) sc_law_pool.nd rfl (Or.inl rfl) (pe_op op_sub (pv 3) (pe_op op_pow pe_int pe_int)))
      (pss_cons (ps_for PassesOwn.never rfl (pi_range1 (by rfl) T.n_range (pa_cons (pv 2) pa_nil)) (pg_name (i := 5) sc_law_pool.nd rfl (Or.inl rfl))
        (pss_cons (ps_expr (pe_bm PySem.F.plainAttrs_list PySem.F.slot_list_append PySem.F.type_list_append mt_append (pv 4) (pa_cons (pe_op op_mod (pe_callTy call_int1 (by rfl) T.n_int (by decide +kernel) (pa_cons (pv 3) pa_nil)) pe_int) pa_nil)))
      (pss_one (ps_set (i := 3) sc_law_pool.nd rfl (Or.inl rfl) (pe_op op_fdiv (pv 3) pe_int)))))
      (pss_one (ps_ret (pv 4))))) pss_nil)
      (pss_cons (ps_for PassesOwn.never rfl (pi_range1 (by rfl) T.n_range (pa_cons (pv 2) pa_nil)) (pg_name (i := 5) sc_law_pool.nd rfl (Or.inl rfl))
        (pss_cons (ps_set (i := 6) sc_law_pool.nd rfl (Or.inl rfl) (pe_op op_mod (pe_callTy call_int1 (by rfl) T.n_int (by decide +kernel) (pa_cons (pe_op op_add (pe_op op_add (pe_op op_add (pe_op op_mul (pv 3) pe_int) (pe_op op_mul (pe_op op_add (pv 5) pe_int) pe_int)) (pe_op op_mul (pv 1) pe_int)) pe_int) pa_nil)) pe_int))
      (pss_cons (ps_set (i := 7) sc_law_pool.nd rfl (Or.inl rfl) (pe_op op_mod (pe_callTy call_int1 (by rfl) T.n_int (by decide +kernel) (pa_cons (pe_op op_add (pe_op op_add (pe_op op_mulW (pv 6) (pv 6)) (pe_op op_mul (pv 3) pe_int)) (pv 5)) pa_nil)) pe_int))
      (pss_cons (ps_set (i := 8) sc_law_pool.nd rfl (Or.inl rfl) (pe_op op_mod (pe_callTy call_int1 (by rfl) T.n_int (by decide +kernel) (pa_cons (pe_op op_add (pe_op op_mulW (pv 7) (pv 7)) (pv 6)) pa_nil)) pe_int))
      (pss_one (ps_expr (pe_bm PySem.F.plainAttrs_list PySem.F.slot_list_append PySem.F.type_list_append mt_append (pv 4) (pa_cons (pe_op op_mod (pe_callTy call_int1 (by rfl) T.n_int (by decide +kernel) (pa_cons (pe_op op_fdiv (pv 8) pe_int) pa_nil)) pe_int) pa_nil))))))))
      (pss_one (ps_ret (pv 4))))))), ?_⟩
    refine ⟨_, rfl, _, rfl, a, ns, i, rfl, hS, h0, fun z => ⟨_, rfl, ?_⟩⟩
    refine ⟨by show 0 ≤ sizeLine; decide, fun l hl => ?_⟩
    refine ⟨_, rfl, _, _, rfl, rfl, ⟨by decide, by decide, by decide⟩, _, _, rfl, rfl, _, rfl, ?_⟩
    have fin : ∀ ps : List Int, ps.length = c.toNat → Pool ps → Q (.ref l) (upd H l (.lst (ps.map V.int))) := fun ps h1 h2 => k l ps _ (same_new hl) upd_same (by omega) h2
    refine ite2 (fun hb => ?_) (fun hb => ?_)
    · refine ⟨_, rfl, _, _, rfl, rfl, ⟨by decide, by decide, by decide⟩, _, _, rfl, rfl, ?_⟩
      refine ⟨_, rfl, c, rfl, by omega, by omega, for_range (n := c.toNat) (fun j σ H2 => ∃ (v : Int) (ps : List Int) (u : Option V), σ = [some (.ref a), some (.int i), some (.int c), some (.int v), some (.ref l), u, none, none, none] ∧
        H2 = upd H l (.lst (ps.map V.int)) ∧ ps.length = j ∧ Pool ps) ⟨_, [], none, rfl, rfl, rfl, Pool.nil⟩ ?_ ?_⟩
      · rintro j σ H2 hj ⟨v, ps, u, rfl, rfl, hl2, hp⟩
        refine ⟨_, rfl, .inl ⟨rfl, _, SqL.of upd_same⟩, _, rfl, .inl ⟨_, rfl, ?_⟩⟩
        refine ⟨_, _, rfl, rfl, by show (0 : Int) < 27720; decide, l, _, _, rfl, rfl, upd_same, small_int (by rw [len_map_int]; omega), ?_⟩
        refine ⟨_, rfl, _, _, rfl, rfl, ⟨by decide, by decide⟩, ?_⟩
        refine ⟨_, ps ++ [v % 27720], _, rfl, ?_, by simp [hl2], hp.app (Int.emod_nonneg _ (by decide)) (Int.emod_lt_of_pos _ (by decide))⟩
        rw [upd_upd, List.map_append]
        rfl
      · rintro σ H2 ⟨v, ps, u, rfl, rfl, hl2, hp⟩
        exact ⟨_, rfl, fin ps hl2 hp⟩
    · refine ⟨_, rfl, c, rfl, by omega, by omega, for_range (n := c.toNat) (fun j σ H2 => ∃ (v : Int) (ps : List Int) (u u1 u2 u3 : Option V), σ = [some (.ref a), some (.int i), some (.int c), some (.int v), some (.ref l), u, u1, u2, u3] ∧
        H2 = upd H l (.lst (ps.map V.int)) ∧ ps.length = j ∧ Pool ps) ⟨_, [], none, none, none, none, rfl, rfl, rfl, Pool.nil⟩ ?_ ?_⟩
      · rintro j σ H2 hj ⟨v, ps, u, u1, u2, u3, rfl, rfl, hl2, hp⟩
        refine ⟨_, rfl, _, _, rfl, rfl, .inr (by decide), _, rfl, _, _, rfl, rfl, _, _, rfl, rfl, .inr (by decide), _, _, rfl, rfl, _, rfl, _, _, rfl, rfl, .inr (by decide), _, _, rfl, rfl, _, _, rfl, rfl, .inl ⟨_, rfl, _, _, rfl, rfl, by show (0 : Int) < 2147483647; decide, ?_⟩⟩
        refine ⟨_, rfl, _, rfl, _, _, rfl, rfl, mulW (mod_sz (by decide) (by decide)) (mod_sz (by decide) (by decide)), _, rfl, _, _, rfl, rfl, .inr (by decide), _, _, rfl, rfl, _, rfl, _, _, rfl, rfl, .inl ⟨_, rfl, _, _, rfl, rfl, by show (0 : Int) < 2147483629; decide, ?_⟩⟩
        refine ⟨_, rfl, _, rfl, _, _, rfl, rfl, mulW (mod_sz (by decide) (by decide)) (mod_sz (by decide) (by decide)), _, rfl, _, _, rfl, rfl, .inl ⟨_, rfl, _, _, rfl, rfl, by show (0 : Int) < 2147483587; decide, ?_⟩⟩
        refine ⟨_, rfl, .inl ⟨rfl, _, SqL.of upd_same⟩, _, rfl, _, _, rfl, rfl, ⟨by decide, by decide⟩, .inl ⟨_, rfl, ?_⟩⟩
        refine ⟨_, _, rfl, rfl, by show (0 : Int) < 27720; decide, l, _, _, rfl, rfl, upd_same, small_int (by rw [len_map_int]; omega), ?_⟩
        exact ⟨_, ps ++ [_], _, _, _, _, rfl, upd_app, by simp [hl2], hp.app (Int.emod_nonneg _ (by decide)) (Int.emod_lt_of_pos _ (by decide))⟩
      · rintro σ H2 ⟨v, ps, u, u1, u2, u3, rfl, rfl, hl2, hp⟩
        exact ⟨_, rfl, fin ps hl2 hp⟩
theorem ok_common (T : Txt K mg A) : FnOk P w K mg base CX0 1 A.a_law_common A.d_law_common ["one", "other"] spCommon := by
  refine T.F_law_common.ok sc_law_common (fun vs H Q E h => ?_) (fun cdv A' outer s H vs Q E hr h => ?_)
  · obtain ⟨a, b, rfl, _⟩ := h
    rfl
  · obtain ⟨a, b, rfl, k⟩ := h
    refine ⟨_, (pss_cons (ps_set (i := 0) sc_law_common.nd rfl (Or.inl rfl) (pe_callB call_abs (by rfl) T.n_abs (by decide +kernel) (pa_cons (pv 0) pa_nil)))
      (pss_cons (ps_set (i := 1) sc_law_common.nd rfl (Or.inl rfl) (pe_callB call_abs (by rfl) T.n_abs (by decide +kernel) (pa_cons (pv 1) pa_nil)))
      (pss_cons (ps_while PassesOwn.never (pt_cmpR op_gt (pv 1) pe_int (nomark _))
        (pss_one (ps_par (by rfl) sc_law_common.nd (i := 0) (j := 1) rfl rfl (by decide) rfl rfl (pa_cons (pv 1) (pa_cons (pe_op op_mod (pe_callTy call_int1 (by rfl) T.n_int (by decide +kernel) (pa_cons (pv 0) pa_nil)) (pv 1)) pa_nil)) (by rfl))))
      (pss_one (ps_ret (pv 0)))))), ?_⟩
    refine ⟨_, rfl, _, rfl, _, rfl, _, rfl, ?_⟩
    have ab : ∀ x : Int, (if x < 0 then -x else x) = ((x.natAbs : Nat) : Int) := fun x => by split <;> omega
    refine while_by (fun σ H2 => H2 = H ∧ ∃ x y : Nat, σ = [some (.int x), some (.int y)] ∧ Nat.gcd x y = Nat.gcd a.natAbs b.natAbs) (fun σ _ => match σ with | [_, some (.int y)] => y.toNat | _ => 0) ⟨rfl, a.natAbs, b.natAbs, by
      show [some (V.int (if a < 0 then -a else a)), some (V.int (if b < 0 then -b else b))] = _
      rw [ab, ab], rfl⟩ ?_ ?_
    · rintro σ H2 ⟨rfl, x, y, rfl, hg⟩
      refine ⟨_, rfl, _, _, rfl, rfl, _, rfl, ?_⟩
      by_cases hy : (0 : Int) < (y : Int)
      · refine itY hy ?_
        refine ⟨_, rfl, _, rfl, .inl ⟨_, rfl, _, rfl, _, _, rfl, rfl, hy, _, _, rfl, ?_⟩⟩
        refine ⟨⟨rfl, y, x % y, ?_, ?_⟩, ?_⟩
        · rfl
        · rw [← hg, Nat.gcd_comm x y, Nat.gcd_rec y x]
          exact Nat.gcd_comm _ _
        · show ((x : Int) % (y : Int)).toNat < (y : Int).toNat
          have := Int.emod_lt_of_pos (x : Int) hy
          omega
      · refine itN hy ?_
        refine ⟨_, rfl, ?_⟩
        have hy0 : y = 0 := by omega
        subst hy0
        rw [Nat.gcd_zero_right] at hg
        rw [← hg] at k
        exact k
    · intro σ H Q Q' hq h
      obtain ⟨v, e, i, j, h1, h2, b, h3, h4⟩ := h
      exact ⟨v, e, i, j, h1, h2, b, h3, hq _ _ h4⟩
/-! ### sums of parts -/
abbrev PP := Int × Int
def addStep (s x : PP) : PP := (s.1 * x.2 + x.1 * s.2, s.2 * x.2)
def added (xs : List PP) : PP := xs.foldl addStep (0, 1)
theorem addStep_comm (s x y : PP) : addStep (addStep s x) y = addStep (addStep s y) x := by
  unfold addStep
  apply Prod.ext
  · show (s.1 * x.2 + x.1 * s.2) * y.2 + y.1 * (s.2 * x.2) = (s.1 * y.2 + y.1 * s.2) * x.2 + x.1 * (s.2 * y.2)
    grind
  · show s.2 * x.2 * y.2 = s.2 * y.2 * x.2
    grind
theorem fold_swap (xs : List PP) : ∀ s x, xs.foldl addStep (addStep s x) = addStep (xs.foldl addStep s) x := by
  induction xs with
  | nil => intro s x; rfl
  | cons y r ih => intro s x; rw [List.foldl_cons, List.foldl_cons, addStep_comm, ih]
theorem fold_rev (xs : List PP) : ∀ s, xs.reverse.foldl addStep s = xs.foldl addStep s := by
  induction xs with
  | nil => intro s; rfl
  | cons y r ih => intro s; rw [List.reverse_cons, List.foldl_append, ih, List.foldl_cons, List.foldl_cons, List.foldl_nil, fold_swap]
theorem added_rev (xs : List PP) : added xs.reverse = added xs := fold_rev xs _
theorem added_app (xs : List PP) (x : PP) : added (xs ++ [x]) = addStep (added xs) x := by
  unfold added; rw [List.foldl_append]; rfl
def Small (B : Nat) (x : PP) : Prop := x.1.natAbs ≤ 2 ^ B ∧ x.2.natAbs ≤ 2 ^ B
theorem added_le {B : Nat} {xs : List PP} (h : ∀ x ∈ xs, Small B x) : ∀ {s : PP} {m : Nat}, s.1.natAbs ≤ 2 ^ m → s.2.natAbs ≤ 2 ^ m →
    (xs.foldl addStep s).1.natAbs ≤ 2 ^ (m + (B + 1) * xs.length) ∧ (xs.foldl addStep s).2.natAbs ≤ 2 ^ (m + (B + 1) * xs.length) := by
  induction xs with
  | nil => intro s m h1 h2; exact ⟨by simpa using h1, by simpa using h2⟩
  | cons y r ih =>
    intro s m h1 h2
    have hy := h y (List.mem_cons_self ..)
    have a1 : s.1.natAbs * y.2.natAbs ≤ 2 ^ (m + B) := by rw [Nat.pow_add]; exact Nat.mul_le_mul h1 hy.2
    have a2 : y.1.natAbs * s.2.natAbs ≤ 2 ^ (m + B) := by rw [Nat.add_comm, Nat.pow_add]; exact Nat.mul_le_mul hy.1 h2
    have a3 : s.2.natAbs * y.2.natAbs ≤ 2 ^ (m + B) := by rw [Nat.pow_add]; exact Nat.mul_le_mul h2 hy.2
    have e1 : (addStep s y).1.natAbs ≤ 2 ^ (m + B + 1) := by
      have := Int.natAbs_add_le (s.1 * y.2) (y.1 * s.2)
      rw [Int.natAbs_mul, Int.natAbs_mul] at this
      show (s.1 * y.2 + y.1 * s.2).natAbs ≤ _
      rw [Nat.pow_succ]; omega
    have e2 : (addStep s y).2.natAbs ≤ 2 ^ (m + B + 1) := by
      show (s.2 * y.2).natAbs ≤ _
      rw [Int.natAbs_mul, Nat.pow_succ]; omega
    have q := ih (fun x hx => h x (List.mem_cons_of_mem _ hx)) e1 e2
    rw [List.foldl_cons, List.length_cons]
    have e : m + B + 1 + (B + 1) * r.length = m + (B + 1) * (r.length + 1) := by rw [Nat.mul_add]; omega
    rw [e] at q
    exact q
theorem added_nz {xs : List PP} (h : ∀ x ∈ xs, x.2 ≠ 0) : ∀ {s : PP}, s.2 ≠ 0 → (xs.foldl addStep s).2 ≠ 0 := by
  induction xs with
  | nil => intro s hs; exact hs
  | cons y r ih => intro s hs; exact ih (fun x hx => h x (List.mem_cons_of_mem _ hx)) (Int.mul_ne_zero hs (h y (List.mem_cons_self ..)))
/-- ts: where the tuples of xs stand -/
structure Tups (H : Hp) (ts : List Addr) (xs : List PP) : Prop where
  len : ts.length = xs.length
  at_ : ∀ (i : Nat) (t : Addr) (x : PP), ts[i]? = some t → xs[i]? = some x → H t = some (.tup [.int x.1, .int x.2])
theorem Tups.same {H H' : Hp} {ts : List Addr} {xs : List PP} (h : Tups H ts xs) (e : Same H H') : Tups H' ts xs := ⟨h.len, fun i t x a b => e _ _ (h.at_ i t x a b)⟩
theorem Tups.nil {H : Hp} : Tups H [] [] := ⟨rfl, fun i t x h => by simp at h⟩
theorem Tups.app {H : Hp} {ts : List Addr} {xs : List PP} {t : Addr} {x : PP} (h : Tups H ts xs) (ht : H t = some (.tup [.int x.1, .int x.2])) : Tups H (ts ++ [t]) (xs ++ [x]) := by
  refine ⟨by rw [List.length_append, List.length_append, h.len]; rfl, fun i u y a b => ?_⟩
  rcases Nat.lt_trichotomy i ts.length with c | c | c
  · rw [List.getElem?_append_left c] at a
    rw [List.getElem?_append_left (by rw [← h.len]; exact c)] at b
    exact h.at_ i u y a b
  · rw [c, List.getElem?_append_right (Nat.le_refl _), Nat.sub_self] at a
    rw [c, h.len, List.getElem?_append_right (Nat.le_refl _), Nat.sub_self] at b
    cases a; cases b; exact ht
  · rw [List.getElem?_append_right (by omega), List.getElem?_eq_none (by simp; omega)] at a
    cases a
theorem Tups.get {H : Hp} {ts : List Addr} {xs : List PP} (h : Tups H ts xs) {i : Nat} (hi : i < ts.length) : ∃ t x, ts[i]? = some t ∧ xs[i]? = some x ∧ H t = some (.tup [.int x.1, .int x.2]) := by
  have hx : i < xs.length := by rw [← h.len]; exact hi
  exact ⟨ts[i], xs[i], List.getElem?_eq_getElem hi, List.getElem?_eq_getElem hx, h.at_ i _ _ (List.getElem?_eq_getElem hi) (List.getElem?_eq_getElem hx)⟩
theorem refs_get {ts : List Addr} {i : Nat} {v : V} (h : (ts.map V.ref)[i]? = some v) : ∃ t, ts[i]? = some t ∧ v = .ref t := by
  rw [List.getElem?_map] at h
  cases e : ts[i]? with
  | none => rw [e] at h; cases h
  | some t => rw [e] at h; exact ⟨t, rfl, (Option.some.inj h).symm⟩
/-- n / d is a / b and stands at p -/
def FrW (C : Addr) (H : Hp) (p : Addr) (x : PP) : Prop := ∃ n d, Sh C H p n d ∧ Rep n d x.1 x.2
theorem FrW.same {C : Addr} {H H' : Hp} {p : Addr} {x : PP} (h : FrW C H p x) (e : Same H H') : FrW C H' p x := let ⟨n, d, s, r⟩ := h; ⟨n, d, s.same e, r⟩
structure Shs (C : Addr) (H : Hp) (ss : List Addr) (xs : List PP) : Prop where
  len : ss.length = xs.length
  at_ : ∀ (i : Nat) (s : Addr) (x : PP), ss[i]? = some s → xs[i]? = some x → FrW C H s x
theorem Shs.same {C : Addr} {H H' : Hp} {ts : List Addr} {xs : List PP} (h : Shs C H ts xs) (e : Same H H') : Shs C H' ts xs := ⟨h.len, fun i t x a b => (h.at_ i t x a b).same e⟩
theorem Shs.nil {C : Addr} {H : Hp} : Shs C H [] [] := ⟨rfl, fun i t x h => by simp at h⟩
theorem Shs.app {C : Addr} {H : Hp} {ts : List Addr} {xs : List PP} {t : Addr} {x : PP} (h : Shs C H ts xs) (ht : FrW C H t x) : Shs C H (ts ++ [t]) (xs ++ [x]) := by
  refine ⟨by rw [List.length_append, List.length_append, h.len]; rfl, fun i u y a b => ?_⟩
  rcases Nat.lt_trichotomy i ts.length with c | c | c
  · rw [List.getElem?_append_left c] at a
    rw [List.getElem?_append_left (by rw [← h.len]; exact c)] at b
    exact h.at_ i u y a b
  · rw [c, List.getElem?_append_right (Nat.le_refl _), Nat.sub_self] at a
    rw [c, h.len, List.getElem?_append_right (Nat.le_refl _), Nat.sub_self] at b
    cases a; cases b; exact ht
  · rw [List.getElem?_append_right (by omega), List.getElem?_eq_none (by simp; omega)] at a
    cases a
theorem Shs.get {C : Addr} {H : Hp} {ts : List Addr} {xs : List PP} (h : Shs C H ts xs) {i : Nat} {t : Addr} (hi : ts[i]? = some t) : ∃ x, xs[i]? = some x ∧ FrW C H t x := by
  have h1 : i < ts.length := (List.getElem?_eq_some_iff.mp hi).1
  have hx : i < xs.length := by rw [← h.len]; exact h1
  exact ⟨xs[i], List.getElem?_eq_getElem hx, h.at_ i _ _ hi (List.getElem?_eq_getElem hx)⟩
theorem take_succ {xs : List PP} {i : Nat} {x : PP} (h : xs[i]? = some x) : xs.take (i + 1) = xs.take i ++ [x] := by
  rw [List.take_add_one, h]; rfl
def Fit (B : Nat) (xs : List PP) : Prop := xs.length ≤ 10 ∧ ∀ x ∈ xs, Small B x ∧ x.2 ≠ 0
theorem Fit.take {B : Nat} {xs : List PP} (h : Fit B xs) (i : Nat) : Fit B (xs.take i) := ⟨Nat.le_trans (by rw [List.length_take]; exact Nat.min_le_right ..) h.1, fun x hx => h.2 x (List.mem_of_mem_take hx)⟩
theorem Fit.big {xs : List PP} (h : Fit 64 xs) : (added xs).1.natAbs ≤ 2 ^ 650 ∧ (added xs).2.natAbs ≤ 2 ^ 650 := by
  have q := added_le (fun x hx => (h.2 x hx).1) (s := (0, 1)) (m := 0) (by decide) (by decide)
  have e : 2 ^ (0 + (64 + 1) * xs.length) ≤ 2 ^ 650 := Nat.pow_le_pow_right (by decide) (by have := h.1; omega)
  exact ⟨Nat.le_trans q.1 e, Nat.le_trans q.2 e⟩
theorem Fit.nz {B : Nat} {xs : List PP} (h : Fit B xs) : (added xs).2 ≠ 0 := added_nz (fun x hx => (h.2 x hx).2) (by decide)
theorem le_lt {i : Int} {k m : Nat} (h : i.natAbs ≤ 2 ^ k) (hk : k < m) : i.natAbs < 2 ^ m := Nat.lt_of_le_of_lt h (Nat.pow_lt_pow_right (by decide) hk)
theorem rep_add {n d a b m e c f : Int} (r : Rep n d a b) (q : Rep m e c f) : (n * e + m * d) * (b * f) = (a * f + c * b) * (d * e) := by
  have h1 := r.eq
  have h2 := q.eq
  grind
theorem same_make {H : Hp} {x dx : Addr} {o1 o2 o3 : HO} (nx : H x = none) (ndx : H dx = none) : Same H (upd (upd (upd H dx o1) x o2) x o3) := fun b o e => by
  rw [upd_ne (ne_of_none e nx), upd_ne (ne_of_none e nx), upd_ne (ne_of_none e ndx)]
  exact e
/-- the text of a share -/
def shText (n d : Int) : Str := if d = 1 then (toString n : Str) else (toString n : Str) ++ "/" ++ (toString d : Str)
theorem log_of {i : Int} {k : Nat} (h : i.natAbs < 2 ^ k) (hk : 0 < k) (hl : k ≤ 1920) : i.natAbs.log2 < 1920 := Nat.lt_of_lt_of_le (PySem.Flt.log2_lt_of hk h) hl
def spTotal (K : PySem.W.Frag) (C : Addr) (tup : Bool) : Sp := fun vs H Q _ => ∃ (l : Addr) (ss : List Addr) (xs : List PP), vs = [.ref l] ∧ (if tup = true then SqT K H l (ss.map V.ref) else SqL K H l (ss.map V.ref)) ∧ Shs C H ss xs ∧ Fit 64 xs ∧
  ∀ r H', Same H H' → FrW C H' r (added xs) → Q (.ref r) H'
def spStr (C : Addr) : Sp := fun vs H Q _ => ∃ (p : Addr) (n d : Int), vs = [.ref p] ∧ Sh C H p n d ∧ n.natAbs < 2 ^ 1900 ∧ d.natAbs < 2 ^ 1900 ∧ Q (.str (shText n d)) H
def spPart (K : PySem.W.Frag) : Sp := fun vs H Q _ => ∃ (p : Addr) (ns : List Int) (i kd : Int), vs = [.ref p, .int i, .int kd] ∧ SqL K H p (ns.map V.int) ∧ 0 ≤ i ∧ i + 4 < ns.length ∧ Pool ns ∧ (kd = 3 ∨ kd = 4) ∧
  ∀ z H', Same H H' → z.natAbs < 2 ^ (if kd = 3 then 11 else 52) → Q (.int z) H'
def spAdded (K : PySem.W.Frag) : Sp := fun vs H Q _ => ∃ (l : Addr) (ts : List Addr) (xs : List PP), vs = [.ref l] ∧ SqL K H l (ts.map V.ref) ∧ Tups H ts xs ∧ Fit 64 xs ∧
  ∀ t H', Same H H' → H' t = some (.tup [.int (added xs).1, .int (added xs).2]) → Q (.ref t) H'
def spText : Sp := fun vs H Q _ => ∃ (t : Addr) (a b n d : Int), vs = [.ref t] ∧ H t = some (.tup [.int a, .int b]) ∧ a.natAbs < 2 ^ 1900 ∧ b.natAbs < 2 ^ 1900 ∧ Rep n d a b ∧ Q (.str (shText n d)) H
def spIs (C : Addr) : Sp := fun vs H Q _ => ∃ (p t : Addr) (x : PP), vs = [.ref p, .ref t] ∧ H t = some (.tup [.int x.1, .int x.2]) ∧ FrW C H p x ∧ x.1.natAbs < 2 ^ 1900 ∧ x.2.natAbs < 2 ^ 1900 ∧ Q (.bl true) H
def spRefused : Sp := fun vs H Q _ => ∃ (a : Int), vs = [.int a] ∧ a.natAbs < 2 ^ 1900 ∧ ∀ H', Same H H' → Q (.bl true) H'
def spParts (K : PySem.W.Frag) : Sp := fun vs H Q _ => ∃ (a : Addr) (ns : List Int), vs = [.ref a] ∧ SqL K H a (ns.map V.int) ∧
  ∀ l ts xs H', Same H H' → H l = none → H' l = some (.lst (ts.map V.ref)) → Tups H' ts xs → Fit 64 xs → xs.length ≤ 6 → Q (.ref l) H'
theorem at2_0 {x y : V} : atI [x, y] 0 = some x := atI_nat (j := 0) rfl
theorem at2_1 {x y : V} : atI [x, y] 1 = some y := atI_nat (j := 1) rfl
theorem ok_total (T : Txt K mg A) : FnOk P w K mg base CX0 4 A.a_Share_total A.d_Share_total ["shares"] (spTotal K A.C_Share false) := by
  have G_Share_init : FnOk P w K mg base CX0 1 A.a_Share_init A.d_Share_init ["self", "num", "den"] (spInit A.C_Share) := ok_init T
  have G_Share_add := ok_add (P := P) (w := w) (base := base) T
  obtain ⟨ds1, v1, b1⟩ := T.bi1
  refine T.F_Share_total.ok sc_Share_total (fun vs H Q E h => ?_) (fun cdv A' outer s H vs Q E hr h => ?_)
  · obtain ⟨l, ss, xs, rfl, _⟩ := h
    rfl
  · obtain ⟨l, ss, xs, rfl, hS, hs, hf, k⟩ := h
    have hS : SqL K H l (ss.map V.ref) := hS
    refine ⟨_, (pss_cons (ps_set (i := 1) sc_Share_total.nd rfl (Or.inl rfl) (pe_make T.mk_Share G_Share_init (hr.mono (by decide)) rfl T.mg_Share b1 v1 pass0 (pa_cons pe_int pa_nil)))
      (pss_cons (ps_for PassesOwn.never rfl (pi_list (pv 0)) (pg_name (i := 2) sc_Share_total.nd rfl (Or.inl rfl))
        (pss_one (ps_set (i := 1) sc_Share_total.nd rfl (Or.inl rfl) (pe_op (op_own2 G_Share_add T.b_Share_add pass0 (hr.mono (by decide)) T.ds_Share_add T.m_Share_add.fn T.sf_Share) (pv 1) (pv 2)))))
      (pss_one (ps_ret (pv 1))))), ?_⟩
    refine fun x dx nx ndx nex => ⟨x, dx, 0, 1, rfl, upd_same, by decide, by decide, fun n d r => ⟨rfl, ?_⟩⟩
    generalize hX : upd (upd (upd H dx _) x _) x _ = H1
    have h0 : FrW A.C_Share H1 x (0, 1) := by rw [← hX]; exact ⟨n, d, ⟨dx, upd_same⟩, r⟩
    have sm : Same H H1 := by rw [← hX]; exact same_make nx ndx
    clear hX nx ndx nex r n d dx
    refine ⟨_, rfl, l, rfl, ⟨_, sm.seq hS⟩, for_list (K := K) (a := l) (xs := ss.map V.ref) (fun i σ H2 => ∃ (r : Addr) (u : Option V), σ = [some (.ref l), some (.ref r), u] ∧ Same H H2 ∧ FrW A.C_Share H2 r (added (xs.take i)))
      ⟨x, none, rfl, sm, by rw [List.take_zero]; exact h0⟩ (fun i σ H2 _ ⟨_, _, _, s2, _⟩ => s2.seq hS) ?_ ?_⟩
    · rintro i y σ H2 hi ⟨r, u, rfl, s2, fr⟩
      obtain ⟨t, ht, rfl⟩ := refs_get hi
      obtain ⟨z, hz, fz⟩ := (hs.same s2).get ht
      obtain ⟨n, d, sh, rp⟩ := fr
      obtain ⟨m, e, sh2, rp2⟩ := fz
      have sh' := id sh
      have sh2' := id sh2
      obtain ⟨dx, o1⟩ := sh
      obtain ⟨dy, o2⟩ := sh2
      have ft := (hf.take i).big
      have fz := hf.2 z (List.mem_of_getElem? hz)
      have l1 := rp.le
      have l2 := rp2.le
      have zn : SzN n := le_lt (Nat.le_trans l1.1 ft.1) (by decide)
      have zd : SzN d := le_lt (Nat.le_trans l1.2 ft.2) (by decide)
      have zm : SzN m := le_lt (Nat.le_trans l2.1 fz.1.1) (by decide)
      have ze : SzN e := le_lt (Nat.le_trans l2.2 fz.1.2) (by decide)
      refine ⟨_, rfl, _, rfl, r, t, dx, dy, _, _, rfl, rfl, o1, o2, r, t, n, d, m, e, rfl, sh', sh2', rp.pos, rp2.pos, zn, zd, zm, ze, fun q n' d' H3 sm3 sh3 rp3 => ?_⟩
      refine ⟨q, _, rfl, s2.trans sm3, n', d', sh3, ?_⟩
      rw [take_succ hz, added_app]
      exact rp3.to (Int.mul_ne_zero rp.nz rp2.nz) (rep_add rp rp2)
    · rintro σ H2 ⟨r, u, rfl, s2, fr⟩
      rw [List.length_map, hs.len, List.take_length] at fr
      exact ⟨_, rfl, k r H2 s2 fr⟩
theorem ok_totalT (T : Txt K mg A) : FnOk P w K mg base CX0 4 A.a_Share_total A.d_Share_total ["shares"] (spTotal K A.C_Share true) := by
  have G_Share_init : FnOk P w K mg base CX0 1 A.a_Share_init A.d_Share_init ["self", "num", "den"] (spInit A.C_Share) := ok_init T
  have G_Share_add := ok_add (P := P) (w := w) (base := base) T
  obtain ⟨ds1, v1, b1⟩ := T.bi1
  refine T.F_Share_total.ok sc_Share_total (fun vs H Q E h => ?_) (fun cdv A' outer s H vs Q E hr h => ?_)
  · obtain ⟨l, ss, xs, rfl, _⟩ := h
    rfl
  · obtain ⟨l, ss, xs, rfl, hS, hs, hf, k⟩ := h
    have hS : SqT K H l (ss.map V.ref) := hS
    have sT : ∀ {H2 : Hp}, Same H H2 → SqT K H2 l (ss.map V.ref) := fun {H2} e => by
      rcases hS with (h | ⟨o, h⟩) | h
      · exact .inl (.inl (e _ _ h))
      · exact .inl (.inr ⟨o, e _ _ h⟩)
      · exact .inr h
    refine ⟨_, (pss_cons (ps_set (i := 1) sc_Share_total.nd rfl (Or.inl rfl) (pe_make T.mk_Share G_Share_init (hr.mono (by decide)) rfl T.mg_Share b1 v1 pass0 (pa_cons pe_int pa_nil)))
      (pss_cons (ps_for PassesOwn.never rfl (pi_tup (pv 0)) (pg_name (i := 2) sc_Share_total.nd rfl (Or.inl rfl))
        (pss_one (ps_set (i := 1) sc_Share_total.nd rfl (Or.inl rfl) (pe_op (op_own2 G_Share_add T.b_Share_add pass0 (hr.mono (by decide)) T.ds_Share_add T.m_Share_add.fn T.sf_Share) (pv 1) (pv 2)))))
      (pss_one (ps_ret (pv 1))))), ?_⟩
    refine fun x dx nx ndx nex => ⟨x, dx, 0, 1, rfl, upd_same, by decide, by decide, fun n d r => ⟨rfl, ?_⟩⟩
    generalize hX : upd (upd (upd H dx _) x _) x _ = H1
    have h0 : FrW A.C_Share H1 x (0, 1) := by rw [← hX]; exact ⟨n, d, ⟨dx, upd_same⟩, r⟩
    have sm : Same H H1 := by rw [← hX]; exact same_make nx ndx
    clear hX nx ndx nex r n d dx
    refine ⟨_, rfl, l, rfl, ⟨_, sT sm⟩, for_tup (K := K) (a := l) (xs := ss.map V.ref) (fun i σ H2 => ∃ (r : Addr) (u : Option V), σ = [some (.ref l), some (.ref r), u] ∧ Same H H2 ∧ FrW A.C_Share H2 r (added (xs.take i)))
      ⟨x, none, rfl, sm, by rw [List.take_zero]; exact h0⟩ (fun i σ H2 _ ⟨_, _, _, s2, _⟩ => sT s2) ?_ ?_⟩
    · rintro i y σ H2 hi ⟨r, u, rfl, s2, fr⟩
      obtain ⟨t, ht, rfl⟩ := refs_get hi
      obtain ⟨z, hz, fz⟩ := (hs.same s2).get ht
      obtain ⟨n, d, sh, rp⟩ := fr
      obtain ⟨m, e, sh2, rp2⟩ := fz
      have sh' := id sh
      have sh2' := id sh2
      obtain ⟨dx, o1⟩ := sh
      obtain ⟨dy, o2⟩ := sh2
      have ft := (hf.take i).big
      have fz := hf.2 z (List.mem_of_getElem? hz)
      have l1 := rp.le
      have l2 := rp2.le
      have zn : SzN n := le_lt (Nat.le_trans l1.1 ft.1) (by decide)
      have zd : SzN d := le_lt (Nat.le_trans l1.2 ft.2) (by decide)
      have zm : SzN m := le_lt (Nat.le_trans l2.1 fz.1.1) (by decide)
      have ze : SzN e := le_lt (Nat.le_trans l2.2 fz.1.2) (by decide)
      refine ⟨_, rfl, _, rfl, r, t, dx, dy, _, _, rfl, rfl, o1, o2, r, t, n, d, m, e, rfl, sh', sh2', rp.pos, rp2.pos, zn, zd, zm, ze, fun q n' d' H3 sm3 sh3 rp3 => ?_⟩
      refine ⟨q, _, rfl, s2.trans sm3, n', d', sh3, ?_⟩
      rw [take_succ hz, added_app]
      exact rp3.to (Int.mul_ne_zero rp.nz rp2.nz) (rep_add rp rp2)
    · rintro σ H2 ⟨r, u, rfl, s2, fr⟩
      rw [List.length_map, hs.len, List.take_length] at fr
      exact ⟨_, rfl, k r H2 s2 fr⟩
end
end My
set_option maxRecDepth 100000
set_option maxHeartbeats 4000000
set_option exponentiation.threshold 10000
namespace My
open PySem L2
theorem le_sz {n m : Nat} (h : n ≤ m) (hm : m ≤ 1000000) : n ≤ sizeLine := Nat.le_trans h (Nat.le_trans hm (by decide))
theorem ls : Str.length ("/" : Str) = 1 := by decide +kernel
theorem p19 {i : Int} (h : i.natAbs < 2 ^ 1900) : i.natAbs < 2 ^ 9000 := sz h (by decide)
section
variable {P : Program} {w : World} {K : PySem.W.Frag} {mg : Str → Option Value} {base : Heap} {A : Ad}
theorem ok_added (T : Txt K mg A) : FnOk P w K mg base CX0 1 A.a_law_added A.d_law_added ["parts"] (spAdded K) := by
  refine T.F_law_added.ok sc_law_added (fun vs H Q E h => ?_) (fun cdv A' outer s H vs Q E hr h => ?_)
  · obtain ⟨l, ts, xs, rfl, _⟩ := h
    rfl
  · obtain ⟨l, ts, xs, rfl, hS, ht, hf, k⟩ := h
    refine ⟨_, (pss_cons (ps_set (i := 1) sc_law_added.nd rfl (Or.inl rfl) pe_int)
      (pss_cons (ps_set (i := 2) sc_law_added.nd rfl (Or.inl rfl) pe_int)
      (pss_cons (ps_for PassesOwn.never rfl (pi_list (pv 0)) (pg_name (i := 3) sc_law_added.nd rfl (Or.inl rfl))
        (pss_cons (ps_set (i := 1) sc_law_added.nd rfl (Or.inl rfl) (pe_op op_add (pe_op op_mulW (pv 1) (pe_ix ix_tup (pv 3) pe_int (fun _ _ => rfl))) (pe_op op_mulW (pe_ix ix_tup (pv 3) pe_int (fun _ _ => rfl)) (pv 2))))
      (pss_one (ps_set (i := 2) sc_law_added.nd rfl (Or.inl rfl) (pe_op op_mulW (pv 2) (pe_ix ix_tup (pv 3) pe_int (fun _ _ => rfl)))))))
      (pss_one (ps_ret (pe_tup (pa_cons (pv 1) (pa_cons (pv 2) pa_nil)))))))), ?_⟩
    refine ⟨_, rfl, l, rfl, ⟨_, hS⟩, for_list (K := K) (a := l) (xs := ts.map V.ref) (fun i σ H2 => H2 = H ∧ ∃ u : Option V, σ = [some (.ref l), some (.int (added (xs.take i)).1), some (.int (added (xs.take i)).2), u])
      ⟨rfl, none, by rw [List.take_zero]; rfl⟩ (fun i σ H2 _ ⟨e, _⟩ => by rw [e]; exact hS) ?_ ?_⟩
    · rintro i y σ H2 hi ⟨rfl, u, rfl⟩
      obtain ⟨t, hti, rfl⟩ := refs_get hi
      have hl : i < ts.length := (List.getElem?_eq_some_iff.mp hti).1
      obtain ⟨t', z, e1, hz, o⟩ := ht.get hl
      rw [hti] at e1
      cases e1
      have ft := (hf.take i).big
      have fz := hf.2 z (List.mem_of_getElem? hz)
      have a1 : (added (xs.take i)).1.natAbs < 2 ^ 9000 := le_lt ft.1 (by decide)
      have a2 : (added (xs.take i)).2.natAbs < 2 ^ 9000 := le_lt ft.2 (by decide)
      have b1 : z.1.natAbs < 2 ^ 9000 := le_lt fz.1.1 (by decide)
      have b2 : z.2.natAbs < 2 ^ 9000 := le_lt fz.1.2 (by decide)
      refine ⟨_, rfl, _, rfl, t, _, _, _, rfl, rfl, SqT.of o, at2_1, _, _, rfl, rfl, mulW a1 b2, _, rfl, t, _, _, _, rfl, rfl, SqT.of o, at2_0, _, rfl, _, _, rfl, rfl, mulW b1 a2, _, _, rfl, rfl, ?_⟩
      refine ⟨_, rfl, _, rfl, t, _, _, _, rfl, rfl, SqT.of o, at2_1, _, _, rfl, rfl, mulW a2 b2, ?_⟩
      refine ⟨rfl, some (.ref t), ?_⟩
      rw [take_succ hz, added_app]
      rfl
    · rintro σ H2 ⟨rfl, u, rfl⟩
      rw [List.length_map, ht.len, List.take_length]
      exact ⟨_, rfl, _, rfl, by show 2 ≤ sizeLine; decide, fun t ht => k t _ (same_new ht) upd_same⟩
theorem ok_part (T : Txt K mg A) : FnOk P w K mg base CX0 1 A.a_law_part A.d_law_part ["pool", "at", "kinds"] (spPart K) := by
  refine T.F_law_part.ok sc_law_part (fun vs H Q E h => ?_) (fun cdv A' outer s H vs Q E hr h => ?_)
  · obtain ⟨p, ns, i, kd, rfl, _⟩ := h
    rfl
  · obtain ⟨p, ns, i, kd, rfl, hS, h0, h1, hp, hk, k⟩ := h
    have hk0 : 0 < kd := by omega
    refine ⟨_, (pss_cons (ps_set (i := 3) sc_law_part.nd rfl (Or.inl rfl) (pe_ix ix_list (pe_lst (pa_cons pe_int (pa_cons pe_int (pa_cons pe_int (pa_cons (pe_op op_sub (pe_op op_mul pe_int (pe_op op_pow pe_int pe_int)) pe_int) pa_nil))))) (pe_op op_mod (pe_callTy call_int1 (by rfl) T.n_int (by decide +kernel) (pa_cons (pe_ix ix_list (pv 0) (pv 1) (fun _ _ => rfl)) pa_nil)) (pv 2)) (fun _ _ => rfl)))
      (pss_cons (ps_set (i := 4) sc_law_part.nd rfl (Or.inl rfl) (pe_op op_add (pe_op op_mul (pe_op op_add (pe_op op_mul (pe_op op_add (pe_op op_mul (pe_ix ix_list (pv 0) (pe_op op_add (pv 1) pe_int) (fun _ _ => rfl)) pe_int) (pe_ix ix_list (pv 0) (pe_op op_add (pv 1) pe_int) (fun _ _ => rfl))) pe_int) (pe_ix ix_list (pv 0) (pe_op op_add (pv 1) pe_int) (fun _ _ => rfl))) pe_int) (pe_ix ix_list (pv 0) (pe_op op_add (pv 1) pe_int) (fun _ _ => rfl))))
      (pss_one (ps_ret (pe_op op_sub (pe_op op_mod (pe_callTy call_int1 (by rfl) T.n_int (by decide +kernel) (pa_cons (pv 4) pa_nil)) (pv 3)) (pe_op op_fdiv (pv 3) pe_int)))))), ?_⟩
    refine ⟨_, _, rfl, rfl, ⟨by decide, by decide, by decide⟩, _, _, rfl, rfl, .inl ⟨by decide, by decide⟩, _, _, rfl, rfl, by show 4 ≤ sizeLine; decide, fun l hl => ?_⟩
    have sm := same_new (o := .lst ([7, 41, 2001, 2 * 10 ^ 15 - 1].map V.int)) hl
    have hS' := sm.seq hS
    obtain ⟨x, hx, ex⟩ := atI_ok (xs := ns) h0 (by omega)
    obtain ⟨x1, hx1, ex1⟩ := atI_ok (xs := ns) (j := i + 1) (by omega) (by omega)
    obtain ⟨x2, hx2, ex2⟩ := atI_ok (xs := ns) (j := i + 2) (by omega) (by omega)
    obtain ⟨x3, hx3, ex3⟩ := atI_ok (xs := ns) (j := i + 3) (by omega) (by omega)
    obtain ⟨x4, hx4, ex4⟩ := atI_ok (xs := ns) (j := i + 4) (by omega) (by omega)
    have y0 := Int.emod_nonneg x (Int.ne_of_gt hk0)
    have y1 := Int.emod_lt_of_pos x hk0
    obtain ⟨m, hm, em⟩ : ∃ m : Int, (0 < m ∧ m < 2 ^ (if kd = 3 then 11 else 51)) ∧ atI ([7, 41, 2001, 2 * 10 ^ 15 - 1].map V.int) (x % kd) = some (V.int m) := by
      have hc : x % kd = 0 ∨ x % kd = 1 ∨ x % kd = 2 ∨ (x % kd = 3 ∧ kd = 4) := by omega
      rcases hc with e | e | e | ⟨e, e4⟩
      · exact ⟨7, by split <;> decide, by rw [e]; rfl⟩
      · exact ⟨41, by split <;> decide, by rw [e]; rfl⟩
      · exact ⟨2001, by split <;> decide, by rw [e]; rfl⟩
      · exact ⟨2 * 10 ^ 15 - 1, by rw [e4]; decide, by rw [e]; rfl⟩
    refine ⟨_, rfl, _, rfl, _, _, _, _, rfl, rfl, hS', ex, .inl ⟨_, rfl, _, rfl, _, _, rfl, rfl, hk0, _, _, _, _, rfl, rfl, SqL.of upd_same, em, ?_⟩⟩
    refine ⟨_, rfl, _, rfl, _, _, rfl, rfl, _, _, _, _, rfl, rfl, hS', ex1, _, _, rfl, rfl, .inr (by decide), _, rfl, _, rfl, _, _, rfl, rfl, _, _, _, _, rfl, rfl, hS', ex2, _, _, rfl, rfl, _, _, rfl, rfl, .inr (by decide), _, rfl, _, rfl, _, _, rfl, rfl, _, _, _, _, rfl, rfl, hS', ex3, _, _, rfl, rfl, _, _, rfl, rfl, .inr (by decide), _, rfl, _, rfl, _, _, rfl, rfl, _, _, _, _, rfl, rfl, hS', ex4, _, _, rfl, rfl, ?_⟩
    refine ⟨_, rfl, .inl ⟨_, rfl, _, rfl, _, _, rfl, rfl, hm.1, _, rfl, _, _, rfl, rfl, ⟨by decide, by decide⟩, _, _, rfl, rfl, ?_⟩⟩
    refine k _ _ sm ?_
    generalize ((x1 * 27720 + x2) * 27720 + x3) * 27720 + x4 = y
    have z1 := Int.emod_nonneg y (Int.ne_of_gt hm.1)
    have z2 := Int.emod_lt_of_pos y hm.1
    show ((y % m) - m / 2).natAbs < _
    rcases hk with e | e
    · subst e
      rw [if_pos rfl] at hm ⊢
      omega
    · subst e
      rw [if_neg (by decide)] at hm ⊢
      omega
theorem ok_str (T : Txt K mg A) : FnOk P w K mg base CX0 1 A.a_Share_str A.d_Share_str ["self"] (spStr A.C_Share) := by
  refine T.F_Share_str.ok sc_Share_str (fun vs H Q E h => ?_) (fun cdv A' outer s H vs Q E hr h => ?_)
  · obtain ⟨p, n, d, rfl, _⟩ := h
    rfl
  · obtain ⟨p, n, d, rfl, h1, zn, zd, k⟩ := h
    obtain ⟨dx, h1⟩ := h1
    refine ⟨_, (pss_cons (ps_if (pt_cmpR op_eq (pe_fld (pv 0) rfl) pe_int (nomark _)) (pss_one (ps_ret (pe_callTy call_str_int (by rfl) T.n_str (by decide +kernel) (pa_cons (pe_fld (pv 0) rfl) pa_nil)))) pss_nil)
      (pss_one (ps_ret (pe_joined (PJ.cons (pe_fmt (pe_fld (pv 0) rfl)) (PJ.cons pe_str (PJ.cons (pe_fmt (pe_fld (pv 0) rfl)) PJ.nil))))))), ?_⟩
    refine ⟨_, rfl, _, _, _, _, _, rfl, h1, T.cl_Share, T.n_Share_den, flds_den _ _, rfl, _, rfl, ?_⟩
    by_cases hd : d = 1
    · refine itY (congrArg V.int hd) ?_
      refine ⟨_, rfl, _, _, _, _, _, rfl, h1, T.cl_Share, T.n_Share_num, flds_num _ _, _, rfl, log_of zn (by decide) (by decide), ?_⟩
      unfold shText at k
      rw [if_pos hd] at k
      exact k
    · refine itN (fun z => hd (V.int.inj z)) ?_
      have l1 := PyProof.Rows.int_text_len_1921 (log_of zn (by decide) (by decide))
      have l2 := PyProof.Rows.int_text_len_1921 (log_of zd (by decide) (by decide))
      refine ⟨_, rfl, _, _, _, _, _, rfl, h1, T.cl_Share, T.n_Share_num, flds_num _ _, .inr ⟨_, rfl, log_of zn (by decide) (by decide), _, rfl, ?_, _, rfl, ?_, _, rfl, _, _, _, _, _, rfl, h1, T.cl_Share, T.n_Share_den, flds_den _ _, .inr ⟨_, rfl, log_of zd (by decide) (by decide), _, rfl, ?_, ?_⟩⟩⟩
      · rw [Str.empty_append]; exact le_sz l1 (by decide)
      · rw [Str.empty_append, Str.length_append, ls]; exact le_sz (Nat.add_le_add_right l1 1) (by decide)
      · rw [Str.empty_append, Str.length_append, Str.length_append, ls]; exact le_sz (Nat.add_le_add (Nat.add_le_add_right l1 1) l2) (by decide)
      · unfold shText at k
        rw [if_neg hd] at k
        show Q (.str (Str.empty ++ _ ++ _ ++ _)) H
        rw [Str.empty_append]
        exact k
theorem ok_text (T : Txt K mg A) : FnOk P w K mg base CX0 2 A.a_law_text A.d_law_text ["part"] spText := by
  have G_law_common := ok_common (P := P) (w := w) (base := base) T
  refine T.F_law_text.ok sc_law_text (fun vs H Q E h => ?_) (fun cdv A' outer s H vs Q E hr h => ?_)
  · obtain ⟨p, a, b, n, d, rfl, _⟩ := h
    rfl
  · obtain ⟨t, a, b, n, d, rfl, o, za, zb, r, k⟩ := h
    refine ⟨_, (pss_cons (ps_set (i := 1) sc_law_text.nd rfl (Or.inl rfl) (pe_call G_law_common (hr.mono (by decide)) rfl T.mg_law_common T.F_law_common.kp T.b_law_common .nil pass0 (pa_cons (pe_ix ix_tup (pv 0) pe_int (fun _ _ => rfl)) (pa_cons (pe_ix ix_tup (pv 0) pe_int (fun _ _ => rfl)) pa_nil))))
      (pss_cons (ps_if (pt_cmpR op_lt (pe_ix ix_tup (pv 0) pe_int (fun _ _ => rfl)) pe_int (nomark _)) (pss_one (ps_set (i := 1) sc_law_text.nd rfl (Or.inl rfl) (pe_un un_neg (pv 1)))) pss_nil)
      (pss_cons (ps_if (pt_cmpR op_eq (pe_ix ix_tup (pv 0) pe_int (fun _ _ => rfl)) (pv 1) (nomark _)) (pss_one (ps_ret (pe_callTy call_str_int (by rfl) T.n_str (by decide +kernel) (pa_cons (pe_op op_fdivX (pe_ix ix_tup (pv 0) pe_int (fun _ _ => rfl)) (pv 1)) pa_nil)))) pss_nil)
      (pss_one (ps_ret (pe_op op_add_str (pe_op op_add_str (pe_callTy call_str_int (by rfl) T.n_str (by decide +kernel) (pa_cons (pe_op op_fdivX (pe_ix ix_tup (pv 0) pe_int (fun _ _ => rfl)) (pv 1)) pa_nil)) pe_str) (pe_callTy call_str_int (by rfl) T.n_str (by decide +kernel) (pa_cons (pe_op op_fdivX (pe_ix ix_tup (pv 0) pe_int (fun _ _ => rfl)) (pv 1)) pa_nil)))))))), ?_⟩
    refine ⟨_, rfl, t, _, _, _, rfl, rfl, SqT.of o, at2_0, _, rfl, t, _, _, _, rfl, rfl, SqT.of o, at2_1, a, b, rfl, ?_⟩
    refine ⟨_, rfl, t, _, _, _, rfl, rfl, SqT.of o, at2_1, _, _, rfl, rfl, _, rfl, ?_⟩
    have rr := r.muls
    have hg := redG_ne (a := a) r.nz
    have hl := redG_le (a := a) r.nz
    have zn : n.natAbs < 2 ^ 1900 := by have := r.le.1; omega
    have zd : d.natAbs < 2 ^ 1900 := by have := r.le.2; omega
    have fin : ∀ c : Int, c = redG a b → CDivX a c ∧ a.fdiv c = n ∧ b.fdiv c = d ∧ (b = c ↔ d = 1) := fun c hc => by
      subst hc
      refine ⟨⟨hg, by omega⟩, ?_, ?_, ?_⟩
      · rw [← rr.1]; conv => lhs; rw [rr.1]
        exact Int.fdiv_eq_of_eq_mul_left hg rr.1.symm
      · exact Int.fdiv_eq_of_eq_mul_left hg rr.2.symm
      · constructor
        · intro e
          have : d * redG a b = 1 * redG a b := by rw [rr.2, Int.one_mul]; exact e
          exact Int.eq_of_mul_eq_mul_right hg this
        · intro e
          rw [e, Int.one_mul] at rr
          exact rr.2.symm
    have l1 := PyProof.Rows.int_text_len_1921 (log_of zn (by decide) (by decide))
    have l2 := PyProof.Rows.int_text_len_1921 (log_of zd (by decide) (by decide))
    have sl1 : (Str.ofString (toString n)).length + Str.length ("/" : Str) ≤ sizeLine := by rw [ls]; exact le_sz (Nat.add_le_add_right l1 1) (by decide)
    have sl2 : (Str.ofString (toString n) ++ ("/" : Str)).length + (Str.ofString (toString d)).length ≤ sizeLine := by
      rw [Str.length_append, ls]; exact le_sz (Nat.add_le_add (Nat.add_le_add_right l1 1) l2) (by decide)
    by_cases hn : b < 0
    · refine itY hn ?_
      refine ⟨_, rfl, _, rfl, ?_⟩
      have ec : -((Nat.gcd a.natAbs b.natAbs : Nat) : Int) = redG a b := by unfold redG; rw [if_pos hn]
      obtain ⟨f1, f2, f3, f4⟩ := fin _ ec
      refine ⟨_, rfl, t, _, _, _, rfl, rfl, SqT.of o, at2_1, _, rfl, rfl, _, rfl, ?_⟩
      by_cases hd : d = 1
      · refine itY (congrArg V.int (f4.mpr hd)) ?_
        refine ⟨_, rfl, t, _, _, _, rfl, rfl, SqT.of o, at2_0, _, rfl, _, _, rfl, rfl, f1, a.fdiv _, rfl, by rw [f2]; exact log_of zn (by decide) (by decide), ?_⟩
        rw [f2]
        unfold shText at k
        rw [if_pos hd] at k
        exact k
      · refine itN (fun z => hd (f4.mp (V.int.inj z))) ?_
        refine ⟨_, rfl, t, _, _, _, rfl, rfl, SqT.of o, at2_0, _, rfl, _, _, rfl, rfl, f1, a.fdiv _, rfl, by rw [f2]; exact log_of zn (by decide) (by decide), ?_⟩
        rw [f2]
        refine ⟨_, _, rfl, rfl, sl1, _, rfl, t, _, _, _, rfl, rfl, SqT.of o, at2_1, _, rfl, _, _, rfl, rfl, f1, b.fdiv _, rfl, by rw [f3]; exact log_of zd (by decide) (by decide), ?_⟩
        rw [f3]
        refine ⟨_, _, rfl, rfl, sl2, ?_⟩
        unfold shText at k
        rw [if_neg hd] at k
        exact k
    · refine itN hn ?_
      have ec : ((Nat.gcd a.natAbs b.natAbs : Nat) : Int) = redG a b := by unfold redG; rw [if_neg hn]
      obtain ⟨f1, f2, f3, f4⟩ := fin _ ec
      refine ⟨_, rfl, t, _, _, _, rfl, rfl, SqT.of o, at2_1, _, rfl, rfl, _, rfl, ?_⟩
      by_cases hd : d = 1
      · refine itY (congrArg V.int (f4.mpr hd)) ?_
        refine ⟨_, rfl, t, _, _, _, rfl, rfl, SqT.of o, at2_0, _, rfl, _, _, rfl, rfl, f1, a.fdiv _, rfl, by rw [f2]; exact log_of zn (by decide) (by decide), ?_⟩
        rw [f2]
        unfold shText at k
        rw [if_pos hd] at k
        exact k
      · refine itN (fun z => hd (f4.mp (V.int.inj z))) ?_
        refine ⟨_, rfl, t, _, _, _, rfl, rfl, SqT.of o, at2_0, _, rfl, _, _, rfl, rfl, f1, a.fdiv _, rfl, by rw [f2]; exact log_of zn (by decide) (by decide), ?_⟩
        rw [f2]
        refine ⟨_, _, rfl, rfl, sl1, _, rfl, t, _, _, _, rfl, rfl, SqT.of o, at2_1, _, rfl, _, _, rfl, rfl, f1, b.fdiv _, rfl, by rw [f3]; exact log_of zd (by decide) (by decide), ?_⟩
        rw [f3]
        refine ⟨_, _, rfl, rfl, sl2, ?_⟩
        unfold shText at k
        rw [if_neg hd] at k
        exact k
theorem ok_is (T : Txt K mg A) : FnOk P w K mg base CX0 2 A.a_law_is A.d_law_is ["found", "part"] (spIs A.C_Share) := by
  have G_law_common := ok_common (P := P) (w := w) (base := base) T
  refine T.F_law_is.ok sc_law_is (fun vs H Q E h => ?_) (fun cdv A' outer s H vs Q E hr h => ?_)
  · obtain ⟨p, t, x, rfl, _⟩ := h
    rfl
  · obtain ⟨p, t, ⟨a, b⟩, rfl, o, ⟨n, d, h1, r⟩, za, zb, k⟩ := h
    have o : H t = some (.tup [.int a, .int b]) := o
    have r : Rep n d a b := r
    have h1' := id h1
    obtain ⟨dx, h1⟩ := h1
    have hpos := r.pos
    refine ⟨_, (pss_cons (ps_if (pt_not (pt_val (pe_callB call_isi (by rfl) T.n_isinstance (by decide +kernel) (pa_cons (pv 0) (pa_cons (pe_glob (v := .ref A.C_Share) rfl T.mg_Share rfl) pa_nil))))) (pss_one (ps_ret pe_bl)) pss_nil)
      (pss_cons (ps_if (PW.pt (pw_or (pt_not (pt_val (pe_callB call_isi (by rfl) T.n_isinstance (by decide +kernel) (pa_cons (pe_fld (pv 0) rfl) (pa_cons (pe_bltn (v := .ty "int") (by rfl) T.n_int (by decide +kernel) rfl) pa_nil))))) (pw_or1 (pt_val (pe_callB call_isi (by rfl) T.n_isinstance (by decide +kernel) (pa_cons (pe_fld (pv 0) rfl) (pa_cons (pe_bltn (v := .ty "bool") (by rfl) T.n_bool (by decide +kernel) rfl) pa_nil))))))) (pss_one (ps_ret pe_bl)) pss_nil)
      (pss_cons (ps_if (PW.pt (pw_or (pt_not (pt_val (pe_callB call_isi (by rfl) T.n_isinstance (by decide +kernel) (pa_cons (pe_fld (pv 0) rfl) (pa_cons (pe_bltn (v := .ty "int") (by rfl) T.n_int (by decide +kernel) rfl) pa_nil))))) (pw_or (pt_val (pe_callB call_isi (by rfl) T.n_isinstance (by decide +kernel) (pa_cons (pe_fld (pv 0) rfl) (pa_cons (pe_bltn (v := .ty "bool") (by rfl) T.n_bool (by decide +kernel) rfl) pa_nil)))) (pw_or1 (pt_cmpR op_lt (pe_fld (pv 0) rfl) pe_int (nomark _)))))) (pss_one (ps_ret pe_bl)) pss_nil)
      (pss_cons (ps_set (i := 2) sc_law_is.nd rfl (Or.inl rfl) (pe_call G_law_common (hr.mono (by decide)) rfl T.mg_law_common T.F_law_common.kp T.b_law_common .nil pass0 (pa_cons (pe_ix ix_tup (pv 1) pe_int (fun _ _ => rfl)) (pa_cons (pe_ix ix_tup (pv 1) pe_int (fun _ _ => rfl)) pa_nil))))
      (pss_cons (ps_set (i := 3) sc_law_is.nd rfl (Or.inl rfl) pe_int)
      (pss_cons (ps_if (pt_cmpR op_lt (pe_ix ix_tup (pv 1) pe_int (fun _ _ => rfl)) pe_int (nomark _)) (pss_one (ps_set (i := 3) sc_law_is.nd rfl (Or.inl rfl) (pe_un un_neg pe_int))) pss_nil)
      (pss_one (ps_ret (pe_and (pe_cmpR op_eq (pe_op op_mulW (pe_fld (pv 0) rfl) (pv 2)) (pe_op op_mulW (pe_ix ix_tup (pv 1) pe_int (fun _ _ => rfl)) (pv 3)) (nomark _)) (pe_one (pe_cmpR op_eq (pe_op op_mulW (pe_fld (pv 0) rfl) (pv 2)) (pe_op op_mulW (pe_ix ix_tup (pv 1) pe_int (fun _ _ => rfl)) (pv 3)) (nomark _)))))))))))), ?_⟩
    refine ⟨_, rfl, _, _, _, _, true, rfl, .own _, T.ty h1', T.ko_self, true, rfl, ?_⟩
    refine iteF ?_
    refine ⟨_, rfl, _, _, _, _, _, rfl, h1, T.cl_Share, T.n_Share_num, flds_num _ _, _, _, _, _, true, rfl, .ty _, .base (.int _), kit_ty (by decide +kernel), true, rfl, ?_⟩
    refine iteF ?_
    refine ⟨_, rfl, _, _, _, _, _, rfl, h1, T.cl_Share, T.n_Share_num, flds_num _ _, _, _, _, _, false, rfl, .ty _, .base (.int _), kit_ty (by decide +kernel), false, rfl, ?_⟩
    refine iteF ?_
    refine ⟨_, rfl, _, _, _, _, _, rfl, h1, T.cl_Share, T.n_Share_den, flds_den _ _, _, _, _, _, true, rfl, .ty _, .base (.int _), kit_ty (by decide +kernel), true, rfl, ?_⟩
    refine iteF ?_
    refine ⟨_, rfl, _, _, _, _, _, rfl, h1, T.cl_Share, T.n_Share_den, flds_den _ _, _, _, _, _, false, rfl, .ty _, .base (.int _), kit_ty (by decide +kernel), false, rfl, ?_⟩
    refine iteF ?_
    refine ⟨_, rfl, _, _, _, _, _, rfl, h1, T.cl_Share, T.n_Share_den, flds_den _ _, _, _, rfl, rfl, _, rfl, ?_⟩
    refine itN (by omega) ?_
    refine ⟨_, rfl, t, _, _, _, rfl, rfl, SqT.of o, at2_0, _, rfl, t, _, _, _, rfl, rfl, SqT.of o, at2_1, a, b, rfl, ?_⟩
    refine ⟨_, rfl, t, _, _, _, rfl, rfl, SqT.of o, at2_1, _, _, rfl, rfl, _, rfl, ?_⟩
    have rr := r.muls
    have gab := redG_abs a b
    have hgl := redG_le (a := a) r.nz
    have gz : (((Nat.gcd a.natAbs b.natAbs : Nat) : Int)).natAbs < 2 ^ 9000 := by rw [Int.natAbs_natCast, ← gab]; exact Nat.lt_of_le_of_lt hgl (p19 zb)
    have zn : n.natAbs < 2 ^ 9000 := Nat.lt_of_le_of_lt r.le.1 (p19 za)
    have zd : d.natAbs < 2 ^ 9000 := Nat.lt_of_le_of_lt r.le.2 (p19 zb)
    by_cases hn : b < 0
    · refine itY hn ?_
      refine ⟨_, rfl, ?_⟩
      have ec : redG a b = -((Nat.gcd a.natAbs b.natAbs : Nat) : Int) := by unfold redG; rw [if_pos hn]
      rw [ec] at rr
      have e1 : n * ((Nat.gcd a.natAbs b.natAbs : Nat) : Int) = a * (-1) := by rw [← rr.1]; grind
      have e2 : d * ((Nat.gcd a.natAbs b.natAbs : Nat) : Int) = b * (-1) := by
        have := rr.2
        grind
      refine ⟨_, rfl, _, _, _, _, _, rfl, h1, T.cl_Share, T.n_Share_num, flds_num _ _, _, rfl, _, _, rfl, rfl, mulW zn gz, _, rfl, t, _, _, _, rfl, rfl, SqT.of o, at2_0, _, rfl, _, _, rfl, rfl, mulW (p19 za) (by decide), rfl, _, rfl, itY (congrArg V.int e1) ?_⟩
      refine ⟨_, rfl, _, _, _, _, _, rfl, h1, T.cl_Share, T.n_Share_den, flds_den _ _, _, rfl, _, _, rfl, rfl, mulW zd gz, _, rfl, t, _, _, _, rfl, rfl, SqT.of o, at2_1, _, rfl, _, _, rfl, rfl, mulW (p19 zb) (by decide), rfl, ?_⟩
      have e2' := decide_eq_true (congrArg V.int e2)
      show Q (.bl (decide (V.int (d * _) = V.int (b * _)))) H
      rw [e2']
      exact k
    · refine itN hn ?_
      have ec : redG a b = ((Nat.gcd a.natAbs b.natAbs : Nat) : Int) := by unfold redG; rw [if_neg hn]
      rw [ec] at rr
      have e1 : n * ((Nat.gcd a.natAbs b.natAbs : Nat) : Int) = a * 1 := by rw [Int.mul_one]; exact rr.1
      have e2 : d * ((Nat.gcd a.natAbs b.natAbs : Nat) : Int) = b * 1 := by rw [Int.mul_one]; exact rr.2
      refine ⟨_, rfl, _, _, _, _, _, rfl, h1, T.cl_Share, T.n_Share_num, flds_num _ _, _, rfl, _, _, rfl, rfl, mulW zn gz, _, rfl, t, _, _, _, rfl, rfl, SqT.of o, at2_0, _, rfl, _, _, rfl, rfl, mulW (p19 za) (by decide), rfl, _, rfl, itY (congrArg V.int e1) ?_⟩
      refine ⟨_, rfl, _, _, _, _, _, rfl, h1, T.cl_Share, T.n_Share_den, flds_den _ _, _, rfl, _, _, rfl, rfl, mulW zd gz, _, rfl, t, _, _, _, rfl, rfl, SqT.of o, at2_1, _, rfl, _, _, rfl, rfl, mulW (p19 zb) (by decide), rfl, ?_⟩
      have e2' := decide_eq_true (congrArg V.int e2)
      show Q (.bl (decide (V.int (d * _) = V.int (b * _)))) H
      rw [e2']
      exact k
/-- Share(a, 0) raises -/
def spInitX (C B : Addr) : Sp := fun vs H Q E => ∃ (p : Addr) (a : Int), vs = [.ref p, .int a, .int 0] ∧ E (.ref B) none H
theorem ok_initX (T : Txt K mg A) : FnOk P w K mg base (L2.CX P w) 1 A.a_Share_init A.d_Share_init ["self", "num", "den"] (spInitX A.C_Share A.C_BadShare) := by
  refine T.F_Share_init.ok sc_Share_init (fun vs H Q E h => ?_) (fun cdv A' outer s H vs Q E hr h => ?_)
  · obtain ⟨p, a, rfl, _⟩ := h
    rfl
  · obtain ⟨p, a, rfl, k⟩ := h
    refine ⟨_, (pss_cons (ps_if (pt_cmpR op_eq (pv 2) pe_int (nomark _)) (pss_one (ps_raise rfl (takes_of rfl rfl rfl rfl) (pmk_own PySem.F.excBase_ValueError T.x_BadShare T.mg_BadShare T.k_BadShare (raises_own T.bp_BadShare T.tp_BadShare) rfl))) pss_nil)
      (pss_cons (ps_set (i := 3) sc_Share_init.nd rfl (Or.inl rfl) (pe_callBfun cr_gcd rfl T.mg_gcd (pa_cons (pv 1) (pa_cons (pv 2) pa_nil))))
      (pss_cons (ps_if (pt_cmpR op_lt (pv 2) pe_int (nomark _)) (pss_one (ps_set (i := 3) sc_Share_init.nd rfl (Or.inl rfl) (pe_un un_neg (pv 3)))) pss_nil)
      (pss_cons (ps_fld (pv 0) (pe_op op_fdivX (pv 1) (pv 3)) rfl)
      (pss_one (ps_fld (pv 0) (pe_op op_fdivX (pv 2) (pv 3)) rfl)))))), ?_⟩
    refine ⟨_, rfl, rfl, _, rfl, itY rfl ?_⟩
    exact k
end
end My
set_option maxRecDepth 100000
set_option maxHeartbeats 4000000
set_option exponentiation.threshold 10000
namespace My
open PySem L2
open C8 (pss_cut)
theorem dpAll_bl {K : PySem.W.Frag} {H : Hp} : ∀ bs : List Bool, DpAll K H (bs.map V.bl) (bs.map PyData.bool)
  | [] => .nil
  | b :: bs => .cons (.bl b) (dpAll_bl bs)
theorem exm_self {K : PySem.W.Frag} {C : Addr} (hb : PySem.W.subIn K (.ref C) (.type "BaseException") = some true) (hi : PySem.W.isClsIn K C = true) (ht : PySem.W.typeIn K (.ref C) = some (.type "type")) (hs : PySem.W.subIn K (.ref C) (.ref C) = some true) :
    PySem.W.exmOne K (.ref C) (.ref C) = some true := by
  unfold PySem.W.exmOne
  rw [hb, if_pos (by rfl)]
  show (if ((PySem.W.clsIn K C).isSome && PySem.W.typeIn K (.ref C) == some (.type "type")) = true then _ else _) = _
  rw [if_pos (by
    rw [ht]
    have : (PySem.W.clsIn K C).isSome = true := hi
    rw [this]; simp)]
  exact hs
section
variable {P : Program} {w : World} {K : PySem.W.Frag} {mg : Str → Option Value} {base : Heap} {A : Ad}
theorem Txt.exc (T : Txt K mg A) : ExcC K A.C_BadShare := ⟨T.e1_BadShare, T.e2_BadShare, T.bp_BadShare, T.e3_BadShare, T.e4_BadShare, T.c2, T.c4, T.e5_BadShare⟩
theorem ok_refused (T : Txt K mg A) : FnOk P w K mg base CX0 4 A.a_law_refused A.d_law_refused ["num"] spRefused := by
  have G_Share_init : FnOk P w K mg base CX0 1 A.a_Share_init A.d_Share_init ["self", "num", "den"] (spInit A.C_Share) := ok_init T
  have GX_Share_init := ok_initX (P := P) (w := w) (base := base) T
  have G_law_is := ok_is (P := P) (w := w) (base := base) T
  refine T.F_law_refused.ok sc_law_refused (fun vs H Q E h => ?_) (fun cdv A' outer s H vs Q E hr h => ?_)
  · obtain ⟨a, rfl, _⟩ := h
    rfl
  · obtain ⟨a, rfl, za, k⟩ := h
    refine ⟨_, (pss_cons (ps_set (i := 1) sc_law_refused.nd rfl (Or.inl rfl) (pe_lst pa_nil))
      (pss_cons (ps_try_as (i := 2) (Wout := fun _ _ _ _ => False) rfl rfl sc_law_refused.nd rfl rfl ⟨rfl, by decide, .inl T.mg_BadShare⟩ takes0 (fun W pn xe tk _ => (pss_one (ps_expr (pe_makeS T.mk_Share GX_Share_init (hr.mono (by decide)) rfl T.mg_Share T.bi (fun σ => passAt tk σ) (pa_cons (pv 0) (pa_cons pe_int pa_nil)))))) (fun a oe cls d pn hz hf => (pss_cons (ps_set (i := 1) sc_law_refused.nd rfl (Or.inl rfl) (pe_lst (pa_cons (pe_callB (call_isEx hz hf) (by rfl) T.n_isinstance (by decide +kernel) (pa_cons (pv 2) (pa_cons (pe_glob (v := .ref A.C_RowsError) rfl T.mg_RowsError rfl) pa_nil))) (pa_cons (pe_callB (call_isEx hz hf) (by rfl) T.n_isinstance (by decide +kernel) (pa_cons (pv 2) (pa_cons (pe_bltn (v := .ty "ValueError") (by rfl) T.n_ValueError (by decide +kernel) rfl) pa_nil))) (pa_cons (pe_callB (call_isEx hz hf) (by rfl) T.n_isinstance (by decide +kernel) (pa_cons (pv 2) (pa_cons (pe_glob (v := .ref A.C_Unknown) rfl T.mg_Unknown rfl) pa_nil))) pa_nil)))))
      (pss_one (ps_set (i := 1) sc_law_refused.nd rfl (Or.inl rfl) (pe_op op_cat (pv 1) (pe_lst (pa_cons (pe_callB (call_isEx hz hf) (by rfl) T.n_isinstance (by decide +kernel) (pa_cons (pv 2) (pa_cons (pe_glob (v := .ref A.C_Impossible) rfl T.mg_Impossible rfl) pa_nil))) (pa_cons (pe_callB (call_isEx hz hf) (by rfl) T.n_isinstance (by decide +kernel) (pa_cons (pv 2) (pa_cons (pe_glob (v := .ref A.C_BadNumber) rfl T.mg_BadNumber rfl) pa_nil))) pa_nil)))))))))
      (pss_one (ps_ret (pe_and (pe_cmpR (op_eqD hr.units) (pv 1) (pe_lst (pa_cons pe_bl (pa_cons pe_bl (pa_cons pe_bl (pa_cons pe_bl (pa_cons pe_bl pa_nil)))))) (nomark _)) (pe_one (pe_call G_law_is (hr.mono (by decide)) rfl T.mg_law_is T.F_law_is.kp T.b_law_is .nil pass0 (pa_cons (pe_make T.mk_Share G_Share_init (hr.mono (by decide)) rfl T.mg_Share T.bi .nil pass0 (pa_cons (pv 0) (pa_cons pe_int pa_nil))) (pa_cons (pe_tup (pa_cons (pv 0) (pa_cons pe_int pa_nil))) pa_nil))))))))), ?_⟩
    refine ⟨by show 0 ≤ sizeLine; decide, fun l hl => ?_⟩
    refine ⟨_, rfl, fun x dx nx ndx nex => ⟨x, a, rfl, true, exm_self T.bp_BadShare T.ic_BadShare T.tp_BadShare T.ss_BadShare, fun _ e he => ?_, fun q => nomatch q⟩⟩
    have hne : A.C_BadShare ≠ A.C_Unknown ∧ A.C_BadShare ≠ A.C_Impossible ∧ A.C_BadShare ≠ A.C_BadNumber := by
      refine ⟨fun e => ?_, fun e => ?_, fun e => ?_⟩
      · have z := T.su_BadShare_Unknown
        rw [← e, T.ss_BadShare] at z; cases z
      · have z := T.su_BadShare_Impossible
        rw [← e, T.ss_BadShare] at z; cases z
      · have z := T.su_BadShare_BadNumber
        rw [← e, T.ss_BadShare] at z; cases z
    have k1 : PySem.W.kitOne K (.ref A.C_BadShare) (.ref A.C_RowsError) = some true := kit_own T.ic_RowsError T.tp_RowsError T.su_BadShare_RowsError (.inr rfl)
    have k2 : PySem.W.kitOne K (.ref A.C_BadShare) (.type "ValueError") = some true := kit_ownT (by decide +kernel) T.sv_BadShare
    have k3 : PySem.W.kitOne K (.ref A.C_BadShare) (.ref A.C_Unknown) = some false := kit_own T.ic_Unknown T.tp_Unknown T.su_BadShare_Unknown (.inl hne.1)
    have k4 : PySem.W.kitOne K (.ref A.C_BadShare) (.ref A.C_Impossible) = some false := kit_own T.ic_Impossible T.tp_Impossible T.su_BadShare_Impossible (.inl hne.2.1)
    have k5 : PySem.W.kitOne K (.ref A.C_BadShare) (.ref A.C_BadNumber) = some false := kit_own T.ic_BadNumber T.tp_BadNumber T.su_BadShare_BadNumber (.inl hne.2.2)
    generalize hX : upd (upd (upd H l _) dx _) x _ = H1 at he ⊢
    have sm1 : Same H H1 := by
      rw [← hX]
      exact (same_new hl).trans ((same_new ndx).trans (same_new (by
        rw [upd_ne nex.symm]
        exact nx)))
    clear hX nx ndx nex hl
    refine ⟨_, rfl, _, rfl, rfl, T.exc, _, _, true, rfl, fun _ h => h, k1, _, rfl, _, rfl, rfl, T.exc, _, _, true, rfl, fun _ h => h, k2, _, rfl, _, rfl, rfl, T.exc, _, _, false, rfl, fun _ h => h, k3, by show 3 ≤ sizeLine; decide, fun l1 hl1 => ?_⟩
    refine ⟨_, rfl, _, rfl, _, rfl, rfl, T.exc, _, _, false, rfl, fun _ h => h, k4, _, rfl, _, rfl, rfl, T.exc, _, _, false, rfl, fun _ h => h, k5, by show 2 ≤ sizeLine; decide, fun l2 hl2 => ?_⟩
    have n12 : l1 ≠ l2 := ne_of_none upd_same hl2
    refine ⟨l1, l2, [.bl true, .bl true, .bl false], [.bl false, .bl false], rfl, rfl, by rw [upd_ne n12]; exact upd_same, upd_same, by show 5 ≤ sizeLine; decide, fun l3 hl3 => ?_⟩
    generalize hX : upd (upd (upd H1 l1 _) l2 _) l3 _ = H2
    have hL : H2 l3 = some (.lst ([true, true, false, false, false].map V.bl)) := by rw [← hX]; exact upd_same
    have sm2 : Same H H2 := by rw [← hX]; exact sm1.trans ((same_new hl1).trans ((same_new hl2).trans (same_new hl3)))
    clear hX hl1 hl2 hl3 n12
    refine ⟨_, rfl, by show 5 ≤ sizeLine; decide, fun l4 hl4 => ?_⟩
    have n34 : l3 ≠ l4 := ne_of_none hL hl4
    refine ⟨.list ([true, true, false, false, false].map PyData.bool), .list ([true, true, false, false, false].map PyData.bool), .lst (xs := [true, true, false, false, false].map V.bl) (SqL.of ?_) (dpAll_bl _), .lst (xs := [true, true, false, false, false].map V.bl) (SqL.of ?_) (dpAll_bl _), by decide +kernel, by decide +kernel, ?_⟩
    · rw [upd_ne n34]; exact hL
    · exact upd_same
    refine ⟨true, congrArg V.bl (by decide +kernel), iteT ?_⟩
    generalize hX : upd H2 l4 _ = H3
    have sm3 : Same H H3 := by rw [← hX]; exact sm2.trans (same_new hl4)
    refine ⟨_, rfl, fun p dy np ndy ndp => ⟨p, dy, a, 1, rfl, upd_same, by decide, by decide, fun n d r => ⟨rfl, ?_⟩⟩⟩
    refine ⟨_, rfl, by show 2 ≤ sizeLine; decide, fun t ht => ?_⟩
    refine ⟨p, t, (a, 1), rfl, upd_same, ⟨n, d, ⟨dy, ?_⟩, r⟩, za, (show (1 : Int).natAbs < 2 ^ 1900 by decide), k _ (sm3.trans ((same_make np ndy).trans (same_new ht)))⟩
    rw [upd_ne (ne_of_none upd_same ht)]
    exact upd_same
theorem Tups.updL {H : Hp} {ts : List Addr} {xs : List PP} {l : Addr} {ys : List V} {o : HO} (h : Tups H ts xs) (hl : H l = some (.lst ys)) : Tups (upd H l o) ts xs := ⟨h.len, fun i t x a b => by
  have := h.at_ i t x a b
  rw [upd_ne (ne_of this hl (by intro z; cases z))]
  exact this⟩
theorem app_last {α : Type} {ts : List α} (h : 0 < ts.length) : ∃ ts0 t0, ts = ts0 ++ [t0] := by
  refine ⟨ts.dropLast, ts.getLast (List.length_pos_iff.mp h), (List.dropLast_concat_getLast _).symm⟩
theorem cut_last {ts : List V} {t : V} : cutV (ts ++ [t]) none (some (-1)) = ts := by
  unfold cutV
  have h1 : HT.sIx (ts ++ [t]).length 0 none = 0 := rfl
  have h2 : HT.sIx (ts ++ [t]).length (ts ++ [t]).length (some (-1)) = ts.length := by
    unfold HT.sIx
    simp
    try omega
  rw [h1, h2]
  simp
theorem ix_last {ts : List V} {t : V} : ixN (ts ++ [t]).length (-1) = some ts.length := by
  unfold ixN
  rw [if_neg (by decide)]
  simp
  try omega
theorem set_last {α : Type} {ts : List α} {t u : α} : (ts ++ [t]).set ts.length u = ts ++ [u] := by
  rw [List.set_append_right _ _ (Nat.le_refl _), Nat.sub_self]; rfl
theorem tups_init {H : Hp} {ts : List Addr} {xs : List PP} {t : Addr} {x : PP} (h : Tups H (ts ++ [t]) (xs ++ [x])) : Tups H ts xs := by
  have hl : ts.length = xs.length := by have := h.len; simp at this; exact this
  refine ⟨hl, fun i u y a b => h.at_ i u y ?_ ?_⟩
  · rw [List.getElem?_append_left (List.getElem?_eq_some_iff.mp a).1]; exact a
  · rw [List.getElem?_append_left (List.getElem?_eq_some_iff.mp b).1]; exact b
theorem ok_parts (T : Txt K mg A) : FnOk P w K mg base CX0 3 A.a_law_parts A.d_law_parts ["script"] (spParts K) := by
  have G_law_pool := ok_pool (P := P) (w := w) (base := base) T
  have G_law_part := ok_part (P := P) (w := w) (base := base) T
  have G_law_added := ok_added (P := P) (w := w) (base := base) T
  refine T.F_law_parts.ok sc_law_parts (fun vs H Q E h => ?_) (fun cdv A' outer s H vs Q E hr h => ?_)
  · obtain ⟨a, ns, rfl, _⟩ := h
    rfl
  · obtain ⟨sa, ns, rfl, hS, k⟩ := h
    refine ⟨_, (pss_cons (ps_set (i := 1) sc_law_parts.nd rfl (Or.inl rfl) (pe_call G_law_pool (hr.mono (by decide)) rfl T.mg_law_pool T.F_law_pool.kp T.b_law_pool .nil pass0 (pa_cons (pv 0) (pa_cons pe_int (pa_cons pe_int pa_nil)))))
      (pss_cons (ps_set (i := 2) sc_law_parts.nd rfl (Or.inl rfl) (pe_call G_law_pool (hr.mono (by decide)) rfl T.mg_law_pool T.F_law_pool.kp T.b_law_pool .nil pass0 (pa_cons (pv 0) (pa_cons pe_int (pa_cons pe_int pa_nil)))))
      (pss_cons (ps_set (i := 3) sc_law_parts.nd rfl (Or.inl rfl) (pe_cmpR op_eq (pe_op op_mod (pe_callTy call_int1 (by rfl) T.n_int (by decide +kernel) (pa_cons (pe_ix ix_list (pv 1) pe_int (fun _ _ => rfl)) pa_nil)) pe_int) pe_int (nomark _)))
      (pss_cons (ps_set (i := 4) sc_law_parts.nd rfl (Or.inl rfl) (pe_op op_sub pe_int (pe_callTy call_int1 (by rfl) T.n_int (by decide +kernel) (pa_cons (pv 3) pa_nil))))
      (pss_cons (ps_set (i := 5) sc_law_parts.nd rfl (Or.inl rfl) (pe_lst pa_nil))
      (pss_cons (ps_for PassesOwn.never rfl (pi_range1 (by rfl) T.n_range (pa_cons (pe_op op_mod (pe_callTy call_int1 (by rfl) T.n_int (by decide +kernel) (pa_cons (pe_ix ix_list (pv 1) pe_int (fun _ _ => rfl)) pa_nil)) pe_int) pa_nil)) (pg_name (i := 6) sc_law_parts.nd rfl (Or.inl rfl))
        (pss_cons (ps_set (i := 7) sc_law_parts.nd rfl (Or.inl rfl) (pe_call G_law_part (hr.mono (by decide)) rfl T.mg_law_part T.F_law_part.kp T.b_law_part .nil pass0 (pa_cons (pv 1) (pa_cons (pe_op op_add pe_int (pe_op op_mul pe_int (pv 6))) (pa_cons (pv 4) pa_nil)))))
      (pss_cons (ps_set (i := 8) sc_law_parts.nd rfl (Or.inl rfl) (pe_call G_law_part (hr.mono (by decide)) rfl T.mg_law_part T.F_law_part.kp T.b_law_part .nil pass0 (pa_cons (pv 2) (pa_cons (pe_op op_mul pe_int (pv 6)) (pa_cons (pv 4) pa_nil)))))
      (pss_cut (ps_if (pt_cmpR op_eq (pv 8) pe_int (nomark _)) (pss_one (ps_set (i := 8) sc_law_parts.nd rfl (Or.inl rfl) pe_int)) pss_nil)
      (pss_one (ps_expr (pe_bm PySem.F.plainAttrs_list PySem.F.slot_list_append PySem.F.type_list_append mt_append (pv 5) (pa_cons (pe_tup (pa_cons (pv 7) (pa_cons (pv 8) pa_nil))) pa_nil))))))))
      (pss_cons (ps_if (PW.pt (pw_and (pt_val (pv 3)) (pw_and1 (pt_cmpR op_gt (pe_callB call_len_seq (by rfl) T.n_len (by decide +kernel) (pa_cons (pv 5) pa_nil)) pe_int (nomark _))))) (pss_cons (ps_set (i := 9) sc_law_parts.nd rfl (Or.inl rfl) (pe_call G_law_added (hr.mono (by decide)) rfl T.mg_law_added T.F_law_added.kp T.b_law_added .nil pass0 (pa_cons (pe_slice sl_list (pv 5) po_none (po_some (pe_un un_neg pe_int))) pa_nil)))
      (pss_cons (ps_set (i := 10) sc_law_parts.nd rfl (Or.inl rfl) (pe_op op_sub (pe_op op_mod (pe_callTy call_int1 (by rfl) T.n_int (by decide +kernel) (pa_cons (pe_ix ix_list (pv 1) pe_int (fun _ _ => rfl)) pa_nil)) pe_int) pe_int))
      (pss_one (ps_asg (pe_tup (pa_cons (pe_op op_sub (pe_op op_mulW (pv 10) (pe_ix ix_tup (pv 9) pe_int (fun _ _ => rfl))) (pe_ix ix_tup (pv 9) pe_int (fun _ _ => rfl))) (pa_cons (pe_ix ix_tup (pv 9) pe_int (fun _ _ => rfl)) pa_nil))) (pg_sub (pv 5) (pe_un un_neg pe_int) set_list))))) pss_nil)
      (pss_one (ps_ret (pv 5)))))))))), ?_⟩
    refine ⟨_, rfl, sa, ns, 0, 60, rfl, hS, by decide, by decide, by decide, fun tp ps H1 sm1 hl1 hps hpool => ?_⟩
    have h60 : ps.length = 60 := by omega
    refine ⟨_, rfl, sa, ns, 1, 60, rfl, sm1.seq hS, by decide, by decide, by decide, fun lw qs H2 sm2 hl2 hqs hqool => ?_⟩
    have q60 : qs.length = 60 := by omega
    have hT : SqL K H2 tp (ps.map V.int) := sm2.seq (SqL.of hl1)
    have hL : SqL K H2 lw (qs.map V.int) := SqL.of hl2
    have sm0 := sm1.trans sm2
    clear hl1 hl2 sm1 sm2 hps hqs
    obtain ⟨x31, _, ex31⟩ := atI_ok (xs := ps) (j := 31) (by decide) (by omega)
    obtain ⟨x0, _, ex0⟩ := atI_ok (xs := ps) (j := 0) (by decide) (by omega)
    refine ⟨_, rfl, _, _, _, _, rfl, rfl, hT, ex31, .inl ⟨_, rfl, _, _, rfl, rfl, by show (0 : Int) < 3; decide, rfl, ?_⟩⟩
    generalize hc : decide (_ = V.int 0) = cl
    refine ⟨_, rfl, .inr ⟨_, rfl, _, _, rfl, rfl, ?_⟩⟩
    refine ⟨by show 0 ≤ sizeLine; decide, fun l hl => ?_⟩
    have hkd : ∃ kd : Int, (kd = 3 ∨ kd = 4) ∧ (kd = 3 ↔ cl = true) ∧ (4 : Int) - (if cl = true then 1 else 0) = kd := by
      cases cl
      · exact ⟨4, .inr rfl, by decide, by decide⟩
      · exact ⟨3, .inl rfl, by decide, by decide⟩
    obtain ⟨kd, hkd, hkc, ekd⟩ := hkd
    have e0 := Int.emod_nonneg x0 (show (7 : Int) ≠ 0 by decide)
    have e1 := Int.emod_lt_of_pos x0 (show (0 : Int) < 7 by decide)
    refine ⟨_, rfl, _, _, _, _, rfl, rfl, (same_new hl).seq hT, ex0, .inl ⟨_, rfl, _, _, rfl, rfl, by show (0 : Int) < 7; decide, ?_⟩⟩
    refine ⟨x0 % 7, rfl, by omega, by omega, for_range (n := (x0 % 7).toNat) (fun j σ H3 => ∃ (ts : List Addr) (xs : List PP) (u6 u7 u8 : Option V), σ = [some (.ref sa), some (.ref tp), some (.ref lw), some (.bl cl), some (.int kd), some (.ref l), u6, u7, u8, none, none] ∧
      Same H2 H3 ∧ H3 l = some (.lst (ts.map V.ref)) ∧ Tups H3 ts xs ∧ xs.length = j ∧ ∀ x ∈ xs, x.1.natAbs < 2 ^ (if kd = 3 then 11 else 52) ∧ x.2.natAbs < 2 ^ (if kd = 3 then 11 else 52) ∧ x.2 ≠ 0)
      ⟨[], [], none, none, none, by rw [← ekd]; rfl, same_new hl, upd_same, Tups.nil, rfl, fun x h => nomatch h⟩ ?_ ?_⟩
    · rintro j σ H3 hj ⟨ts, xs, u6, u7, u8, rfl, sm3, h3, ht3, hlen, hall⟩
      refine ⟨_, rfl, _, rfl, _, _, rfl, rfl, .inl (by decide), _, _, rfl, rfl, _, rfl, tp, ps, 1 + 5 * (0 + (j : Int)), kd, rfl, sm3.seq hT, by omega, by omega, hpool, hkd, fun z1 H4 sm4 hz1 => ?_⟩
      refine ⟨_, rfl, _, rfl, _, _, rfl, rfl, .inl (by decide), _, rfl, lw, qs, 5 * (0 + (j : Int)), kd, rfl, (sm3.trans sm4).seq hL, by omega, by omega, hqool, hkd, fun z2 H5 sm5 hz2 => ?_⟩
      refine ⟨fun σ H6 => H6 = H5 ∧ ∃ z : Int, z ≠ 0 ∧ z.natAbs < 2 ^ (if kd = 3 then 11 else 52) ∧ σ = [some (.ref sa), some (.ref tp), some (.ref lw), some (.bl cl), some (.int kd), some (.ref l), some (.int (0 + (j : Int))), some (.int z1), some (.int z), none, none], ?_, ?_⟩
      · refine ⟨_, rfl, rfl, _, rfl, ?_⟩
        refine ite2 (fun hb => ?_) (fun hb => ?_)
        · exact ⟨rfl, 1, by decide, by split <;> decide, rfl⟩
        · exact ⟨rfl, z2, fun z => hb (by rw [z]; rfl), hz2, rfl⟩
      rintro σ H6 ⟨rfl, z, hz, hzb, rfl⟩
      have sm5' := sm4.trans sm5
      have h6 : H6 l = some (.lst (ts.map V.ref)) := sm5' _ _ h3
      refine ⟨_, rfl, .inl ⟨rfl, _, SqL.of h6⟩, _, rfl, _, rfl, by show 2 ≤ sizeLine; decide, fun t ht => ?_⟩
      have hne : l ≠ t := ne_of_none h6 ht
      refine ⟨l, _, _, rfl, rfl, by rw [upd_ne hne]; exact h6, small_int (by rw [List.length_map, ht3.len]; omega), ?_⟩
      have tu : Tups (upd H6 t (.tup [.int z1, .int z])) (ts ++ [t]) (xs ++ [(z1, z)]) := ((ht3.same sm5').same (same_new ht)).app upd_same
      refine ⟨ts ++ [t], xs ++ [(z1, z)], _, _, _, rfl, ?_, ?_, tu.updL (ys := ts.map V.ref) (by rw [upd_ne hne]; exact h6), by simp [hlen], fun x hx => ?_⟩
      · intro b o e
        rw [upd_ne (ne_of_none e hl)]
        exact (sm3.trans (sm5'.trans (same_new ht))) b o e
      · rw [List.map_append]; exact upd_same
      · rcases List.mem_append.mp hx with hx | hx
        · exact hall x hx
        · cases List.mem_singleton.mp hx; exact ⟨hz1, hzb, hz⟩
    · rintro σ H3 ⟨ts, xs, u6, u7, u8, rfl, sm3, h3, ht3, hlen, hall⟩
      have hx6 : xs.length ≤ 6 := by omega
      have fit : ∀ ys : List PP, (∀ x ∈ ys, x.1.natAbs < 2 ^ 64 ∧ x.2.natAbs < 2 ^ 64 ∧ x.2 ≠ 0) → ys.length ≤ 6 → Fit 64 ys := fun ys h hl => ⟨by omega, fun x hx => ⟨⟨Nat.le_of_lt (h x hx).1, Nat.le_of_lt (h x hx).2.1⟩, (h x hx).2.2⟩⟩
      have lift : ∀ x ∈ xs, x.1.natAbs < 2 ^ 64 ∧ x.2.natAbs < 2 ^ 64 ∧ x.2 ≠ 0 := fun x hx => by
        obtain ⟨a, b, c⟩ := hall x hx
        exact ⟨sz a (by split <;> decide), sz b (by split <;> decide), c⟩
      have hfresh : H l = none := sm0.free hl
      refine ⟨_, rfl, cl, rfl, ?_⟩
      cases hcl : cl with
      | false =>
        refine iteF ?_
        refine iteF ?_
        exact ⟨_, rfl, k l ts xs H3 (sm0.trans sm3) hfresh h3 ht3 (fit xs lift hx6) hx6⟩
      | true =>
        have hk3 : kd = 3 := hkc.mpr hcl
        refine iteT ?_
        refine ⟨_, rfl, _, _, rfl, .inl (SqL.of h3), _, _, rfl, rfl, _, rfl, ?_⟩
        by_cases hz : (0 : Int) < ((ts.map V.ref).length : Int)
        · refine itY hz ?_
          have hts : 0 < ts.length := by rw [List.length_map] at hz; omega
          obtain ⟨ts0, t0, rfl⟩ := app_last hts
          obtain ⟨xs0, x0', rfl⟩ := app_last (ts := xs) (by rw [← ht3.len]; exact hts)
          rw [List.map_append] at h3
          refine ⟨_, rfl, _, rfl, _, rfl, l, _, rfl, SqL.of h3, fun l2 hl2 => ?_⟩
          have ecut : cutV (ts0.map V.ref ++ [t0].map V.ref) none (some (-1)) = ts0.map V.ref := cut_last
          have ht0 := tups_init ht3
          have hx5 : xs0.length ≤ 5 := by simp at hx6; omega
          have lift0 : ∀ x ∈ xs0, x.1.natAbs < 2 ^ 64 ∧ x.2.natAbs < 2 ^ 64 ∧ x.2 ≠ 0 := fun x hx => lift x (List.mem_append_left _ hx)
          have fit0 := fit xs0 lift0 (by omega)
          refine ⟨l2, ts0, xs0, rfl, ?_, ht0.same (same_new hl2), fit0, fun tt H4 sm4 htt => ?_⟩
          · have z : (upd H3 l2 (.lst (cutV (ts0.map V.ref ++ [t0].map V.ref) none (some (-1))))) l2 = some (.lst (ts0.map V.ref)) := by rw [upd_same, ecut]
            exact SqL.of z
          have sm34 : Same H3 H4 := (same_new hl2).trans sm4
          obtain ⟨x32, _, ex32⟩ := atI_ok (xs := ps) (j := 32) (by decide) (by omega)
          refine ⟨_, rfl, _, _, _, _, rfl, rfl, (sm3.trans sm34).seq hT, ex32, .inl ⟨_, rfl, _, _, rfl, rfl, by show (0 : Int) < 7; decide, _, _, rfl, rfl, ?_⟩⟩
          have w0 := Int.emod_nonneg x32 (show (7 : Int) ≠ 0 by decide)
          have w1 := Int.emod_lt_of_pos x32 (show (0 : Int) < 7 by decide)
          have sml : ∀ x ∈ xs0, Small 11 x := fun x hx => by
            obtain ⟨a, b, c⟩ := hall x (List.mem_append_left _ hx)
            rw [if_pos hk3] at a b
            exact ⟨Nat.le_of_lt a, Nat.le_of_lt b⟩
          have bnd := added_le sml (s := (0, 1)) (m := 0) (by decide) (by decide)
          have pw : 2 ^ (0 + (11 + 1) * xs0.length) ≤ 2 ^ 60 := Nat.pow_le_pow_right (by decide) (by omega)
          have bN : (added xs0).1.natAbs ≤ 2 ^ 60 := Nat.le_trans bnd.1 pw
          have bD : (added xs0).2.natAbs ≤ 2 ^ 60 := Nat.le_trans bnd.2 pw
          have nzD := fit0.nz
          generalize hN : (added xs0).1 = N at bN htt
          generalize hD : (added xs0).2 = D at bD htt nzD
          have bw : ((x32 % 7 - 3) * D).natAbs ≤ 3 * 2 ^ 60 := by
            rw [Int.natAbs_mul]
            exact Nat.mul_le_mul (by omega) bD
          refine ⟨_, rfl, _, rfl, _, _, _, _, rfl, rfl, SqT.of htt, at2_1, _, _, rfl, rfl, wide_mul (a := 3) (b := 61) (by omega) (by omega) (by decide) (by decide) (by decide), _, rfl, _, _, _, _, rfl, rfl, SqT.of htt, at2_0, _, _, rfl, rfl, _, rfl, _, _, _, _, rfl, rfl, SqT.of htt, at2_1, by show 2 ≤ sizeLine; decide, fun t ht => ?_⟩
          have h4 := sm34 _ _ h3
          have hne : l ≠ t := ne_of_none h4 ht
          have h5 : (upd H4 t (.tup [.int ((x32 % 7 - 3) * D - N), .int D])) l = some (.lst (ts0.map V.ref ++ [t0].map V.ref)) := by rw [upd_ne hne]; exact h4
          refine ⟨_, rfl, _, rfl, l, _, _, _, rfl, rfl, h5, ix_last, ?_⟩
          have tu : Tups (upd H4 t (.tup [.int ((x32 % 7 - 3) * D - N), .int D])) (ts0 ++ [t]) (xs0 ++ [((x32 % 7 - 3) * D - N, D)]) := ((ht0.same sm34).same (same_new ht)).app upd_same
          refine ⟨_, rfl, k l (ts0 ++ [t]) (xs0 ++ [((x32 % 7 - 3) * D - N, D)]) _ ?_ hfresh ?_ (tu.updL h5) (fit _ (fun x hx => ?_) (by simp at hx6 ⊢; omega)) (by simp at hx6 ⊢; omega)⟩
          · intro b o e
            rw [upd_ne (ne_of_none e hfresh)]
            exact (sm0.trans (sm3.trans (sm34.trans (same_new ht)))) b o e
          · rw [List.map_append]
            show _ = some (HO.lst (ts0.map V.ref ++ [V.ref t]))
            rw [← set_last (ts := ts0.map V.ref) (t := V.ref t0) (u := V.ref t), List.length_map]
            exact upd_same
          · rcases List.mem_append.mp hx with hx | hx
            · exact lift0 x hx
            · cases List.mem_singleton.mp hx
              exact ⟨by show ((x32 % 7 - 3) * D - N).natAbs < 2 ^ 64; omega, by show D.natAbs < 2 ^ 64; omega, nzD⟩
        · refine itN hz ?_
          exact ⟨_, rfl, k l ts xs H3 (sm0.trans sm3) hfresh h3 ht3 (fit xs lift hx6) hx6⟩
end
end My
set_option maxRecDepth 100000
set_option maxHeartbeats 4000000
set_option exponentiation.threshold 10000
namespace My
open PySem L2
theorem dec_iff {p q : Prop} [Decidable p] [Decidable q] (h : p ↔ q) : decide p = decide q := by
  by_cases z : p
  · rw [decide_eq_true z, decide_eq_true (h.mp z)]
  · rw [decide_eq_false z, decide_eq_false (fun y => z (h.mpr y))]
theorem dV (x y : Int) : decide (V.int x = V.int y) = decide (x = y) := dec_iff ⟨fun h => V.int.inj h, fun h => congrArg V.int h⟩
theorem ne_0 {n d a b : Int} (r : Rep n d a b) : (n != 0) = !decide (a = 0) := by
  have h : n = 0 ↔ a = 0 := by
    have e := r.eq
    constructor
    · intro z; subst z; rw [Int.zero_mul] at e
      rcases Int.mul_eq_zero.mp e.symm with z | z
      · exact z
      · exact absurd z (Int.ne_of_gt r.pos)
    · intro z; subst z; rw [Int.zero_mul] at e
      rcases Int.mul_eq_zero.mp e with z | z
      · exact z
      · exact absurd z r.nz
  show (!(n == 0)) = _
  have : (n == 0) = decide (n = 0) := by rfl
  rw [this, dec_iff h]
theorem itNe {x : V} {A B : Prop} (h : B) : if (!decide (x = x)) = true then A else B := by
  rw [decide_eq_true rfl]; exact iteF h
theorem itNe' {x y : V} {A B : Prop} (e : x = y) (h : B) : if (!decide (x = y)) = true then A else B := by
  subst e; exact itNe h
theorem Shs.rev {C : Addr} {H : Hp} {ss : List Addr} {xs : List PP} (h : Shs C H ss xs) : Shs C H ss.reverse xs.reverse := by
  refine ⟨by rw [List.length_reverse, List.length_reverse, h.len], fun i s x a b => ?_⟩
  have ha := (List.getElem?_eq_some_iff.mp a).1
  rw [List.length_reverse] at ha
  have hb : i < xs.length := by rw [← h.len]; exact ha
  rw [List.getElem?_reverse ha] at a
  rw [List.getElem?_reverse hb, ← h.len] at b
  exact h.at_ _ s x a b
theorem Shs.upd {C : Addr} {H : Hp} {ss : List Addr} {xs : List PP} {D : Addr} {ys : List V} {o : HO} (h : Shs C H ss xs) (hD : H D = some (.lst ys)) : Shs C (L2.upd H D o) ss xs := by
  refine ⟨h.len, fun i s x a b => ?_⟩
  obtain ⟨n, d, ⟨dx, hs⟩, r⟩ := h.at_ i s x a b
  refine ⟨n, d, ⟨dx, ?_⟩, r⟩
  rw [upd_ne (ne_of hs hD (by intro z; cases z))]
  exact hs
theorem added_one (x : PP) : added [x] = x := by
  unfold added addStep
  simp
theorem Fit.one {x : PP} (h : Small 64 x ∧ x.2 ≠ 0) : Fit 64 [x] := ⟨by show 1 ≤ 10; decide, fun y hy => by cases List.mem_singleton.mp hy; exact h⟩
theorem Fit.rev {xs : List PP} (h : Fit 64 xs) : Fit 64 xs.reverse := ⟨by rw [List.length_reverse]; exact h.1, fun x hx => h.2 x (List.mem_reverse.mp hx)⟩
theorem at_ref {ss : List Addr} {j : Nat} {s : Addr} (h : ss[j]? = some s) : atI (ss.map V.ref) (0 + (j : Int)) = some (V.ref s) := by
  rw [Int.zero_add]
  exact atI_nat (by rw [List.getElem?_map, h]; rfl)
theorem txt0 : shText 0 1 = ("0" : Str) := by
  unfold shText; rw [if_pos rfl]; decide +kernel
/-- law's: a list of at most 63 ints is handed in, True comes out -/
def spLaw (K : PySem.W.Frag) : Sp := fun vs H Q _ => ∃ (a : Addr) (ns : List Int), vs = [.ref a] ∧ SqL K H a (ns.map V.int) ∧ ns.length ≤ 63 ∧ ∀ H', Q (.bl true) H'
section
variable {P : Program} {w : World} {K : PySem.W.Frag} {mg : Str → Option Value} {base : Heap} {A : Ad}
theorem ok_law (T : Txt K mg A) : FnOk P w K mg base CX0 9 A.a_law A.d_law ["script"] (spLaw K) := by
  have G_Share_init : FnOk P w K mg base CX0 1 A.a_Share_init A.d_Share_init ["self", "num", "den"] (spInit A.C_Share) := ok_init T
  obtain ⟨ds1, v1, b1⟩ := T.bi1
  have G_law_parts := ok_parts (P := P) (w := w) (base := base) T
  have G_law_added := ok_added (P := P) (w := w) (base := base) T
  have G_Share_total := ok_total (P := P) (w := w) (base := base) T
  have GT_Share_total := ok_totalT (P := P) (w := w) (base := base) T
  have G_law_is := ok_is (P := P) (w := w) (base := base) T
  have G_law_text := ok_text (P := P) (w := w) (base := base) T
  have G_Share_str := ok_str (P := P) (w := w) (base := base) T
  have G_Share_bool := ok_bool (P := P) (w := w) (base := base) T
  have G_law_cell := ok_cell (P := P) (w := w) (base := base) T
  have G_law_refused := ok_refused (P := P) (w := w) (base := base) T
  refine T.F_law.ok sc_law (fun vs H Q E h => ?_) (fun cdv A' outer s H vs Q E hr h => ?_)
  · obtain ⟨a, ns, rfl, _⟩ := h
    rfl
  · obtain ⟨sa, ns, rfl, hS, hlen, k⟩ := h
    refine ⟨_, (pss_cons (ps_set (i := 1) sc_law.nd rfl (Or.inl rfl) (pe_call G_law_parts (hr.mono (by decide)) rfl T.mg_law_parts T.F_law_parts.kp T.b_law_parts .nil pass0 (pa_cons (pv 0) pa_nil)))
      (pss_cons (ps_set (i := 2) sc_law.nd rfl (Or.inl rfl) (pe_call G_law_added (hr.mono (by decide)) rfl T.mg_law_added T.F_law_added.kp T.b_law_added .nil pass0 (pa_cons (pv 1) pa_nil)))
      (pss_cons (ps_setLc (i := 3) (own := [("part", 7)]) (g := gName 7) (tt := tYes) rfl sc_law.nd rfl rfl (sw_true rfl rfl rfl (by decide +kernel)) (pi_list (pv 1)) (blkOk_by (N := ["script", "parts", "due", "shares", "total", "i", "extra", "part"]) (sc := defScope s_law) (by decide +kernel)) (fun _ _ _ _ _ => (pg_name (i := 7) sc_law.nd rfl (Or.inl rfl))) (fun _ _ _ _ _ => pts_nil) (fun _ _ _ _ _ => (pe_make T.mk_Share G_Share_init (hr.mono (by decide)) rfl T.mg_Share T.bi .nil pass0 (pa_cons (pe_ix (show IxR _ (rIxT K) from ix_tup) (pv 7) pe_int (fun _ _ => rfl)) (pa_cons (pe_ix (show IxR _ (rIxT K) from ix_tup) (pv 7) pe_int (fun _ _ => rfl)) pa_nil)))))
      (pss_cons (ps_set (i := 4) sc_law.nd rfl (Or.inl rfl) (pe_smeth (pe_glob (v := .ref A.C_Share) rfl T.mg_Share rfl) T.cr_Share T.sm_Share_total G_Share_total (hr.mono (by decide)) T.b_Share_total .nil pass0 (pa_cons (pv 3) pa_nil)))
      (pss_cons (ps_if (PW.pt (pw_or (pt_not (pt_val (pe_call G_law_is (hr.mono (by decide)) rfl T.mg_law_is T.F_law_is.kp T.b_law_is .nil pass0 (pa_cons (pv 4) (pa_cons (pv 2) pa_nil))))) (pw_or (pt_cmpR op_ne (pe_callTy (call_strOwn G_Share_str T.b_Share_str pass0 (hr.mono (by decide)) T.m_Share_str.at_ T.m_Share_str.fn) (by rfl) T.n_str (by decide +kernel) (pa_cons (pv 4) pa_nil)) (pe_call G_law_text (hr.mono (by decide)) rfl T.mg_law_text T.F_law_text.kp T.b_law_text .nil pass0 (pa_cons (pv 2) pa_nil)) (nomark _)) (pw_or1 (pt_cmpR op_ne (pe_callTy (call_boolOwn G_Share_bool T.b_Share_bool pass0 (hr.mono (by decide)) T.m_Share_bool.at_ T.m_Share_bool.fn) (by rfl) T.n_bool (by decide +kernel) (pa_cons (pv 4) pa_nil)) (pe_cmpR op_ne (pe_ix ix_tup (pv 2) pe_int (fun _ _ => rfl)) pe_int (nomark _)) (nomark _)))))) (pss_one (ps_ret pe_bl)) pss_nil)
      (pss_cons (ps_if (pt_cmpR op_ne (pe_callB call_len_seq (by rfl) T.n_len (by decide +kernel) (pa_cons (pv 3) pa_nil)) (pe_callB call_len_seq (by rfl) T.n_len (by decide +kernel) (pa_cons (pv 1) pa_nil)) (nomark _)) (pss_one (ps_ret pe_bl)) pss_nil)
      (pss_cons (ps_for PassesOwn.never rfl (pi_range1 (by rfl) T.n_range (pa_cons (pe_callB call_len_seq (by rfl) T.n_len (by decide +kernel) (pa_cons (pv 1) pa_nil)) pa_nil)) (pg_name (i := 5) sc_law.nd rfl (Or.inl rfl))
        (pss_cons (ps_if (PW.pt (pw_or (pt_not (pt_val (pe_call G_law_is (hr.mono (by decide)) rfl T.mg_law_is T.F_law_is.kp T.b_law_is .nil pass0 (pa_cons (pe_ix ix_list (pv 3) (pv 5) (fun _ _ => rfl)) (pa_cons (pe_ix ix_list (pv 1) (pv 5) (fun _ _ => rfl)) pa_nil))))) (pw_or1 (pt_cmpR op_ne (pe_callTy (call_strOwn G_Share_str T.b_Share_str pass0 (hr.mono (by decide)) T.m_Share_str.at_ T.m_Share_str.fn) (by rfl) T.n_str (by decide +kernel) (pa_cons (pe_ix ix_list (pv 3) (pv 5) (fun _ _ => rfl)) pa_nil)) (pe_call G_law_text (hr.mono (by decide)) rfl T.mg_law_text T.F_law_text.kp T.b_law_text .nil pass0 (pa_cons (pe_ix ix_list (pv 1) (pv 5) (fun _ _ => rfl)) pa_nil)) (nomark _))))) (pss_one (ps_ret pe_bl)) pss_nil)
      (pss_one (ps_if (pt_not (pt_val (pe_call G_law_is (hr.mono (by decide)) rfl T.mg_law_is T.F_law_is.kp T.b_law_is .nil pass0 (pa_cons (pe_smeth (pe_glob (v := .ref A.C_Share) rfl T.mg_Share rfl) T.cr_Share T.sm_Share_total G_Share_total (hr.mono (by decide)) T.b_Share_total .nil pass0 (pa_cons (pe_lst (pa_cons (pe_ix ix_list (pv 3) (pv 5) (fun _ _ => rfl)) pa_nil)) pa_nil)) (pa_cons (pe_ix ix_list (pv 1) (pv 5) (fun _ _ => rfl)) pa_nil))))) (pss_one (ps_ret pe_bl)) pss_nil))))
      (pss_cons (ps_if (PW.pt (pw_or (pt_not (pt_val (pe_call G_law_is (hr.mono (by decide)) rfl T.mg_law_is T.F_law_is.kp T.b_law_is .nil pass0 (pa_cons (pe_smeth (pe_glob (v := .ref A.C_Share) rfl T.mg_Share rfl) T.cr_Share T.sm_Share_total GT_Share_total (hr.mono (by decide)) T.b_Share_total .nil pass0 (pa_cons (pe_callTy call_tuple_of (by rfl) T.n_tuple (by decide +kernel) (pa_cons (pv 3) pa_nil)) pa_nil)) (pa_cons (pv 2) pa_nil))))) (pw_or1 (pt_not (pt_val (pe_call G_law_is (hr.mono (by decide)) rfl T.mg_law_is T.F_law_is.kp T.b_law_is .nil pass0 (pa_cons (pe_smeth (pe_glob (v := .ref A.C_Share) rfl T.mg_Share rfl) T.cr_Share T.sm_Share_total G_Share_total (hr.mono (by decide)) T.b_Share_total .nil pass0 (pa_cons (pe_revL (pv 3)) pa_nil)) (pa_cons (pv 2) pa_nil)))))))) (pss_one (ps_ret pe_bl)) pss_nil)
      (pss_cons (ps_set (i := 6) sc_law.nd rfl (Or.inl rfl) (pe_tup (pa_cons (pe_op op_sub (pe_op op_mod (pe_callTy call_int1 (by rfl) T.n_int (by decide +kernel) (pa_cons (pe_call G_law_cell (hr.mono (by decide)) rfl T.mg_law_cell T.F_law_cell.kp T.b_law_cell .nil pass0 (pa_cons (pv 0) (pa_cons pe_int pa_nil))) pa_nil)) pe_int) pe_int) (pa_cons (pe_op op_add pe_int (pe_op op_mod (pe_callTy call_int1 (by rfl) T.n_int (by decide +kernel) (pa_cons (pe_call G_law_cell (hr.mono (by decide)) rfl T.mg_law_cell T.F_law_cell.kp T.b_law_cell .nil pass0 (pa_cons (pv 0) (pa_cons pe_int pa_nil))) pa_nil)) pe_int)) pa_nil))))
      (pss_cons (ps_expr (pe_bm PySem.F.plainAttrs_list PySem.F.slot_list_append PySem.F.type_list_append mt_append (pv 3) (pa_cons (pe_make T.mk_Share G_Share_init (hr.mono (by decide)) rfl T.mg_Share T.bi .nil pass0 (pa_cons (pe_ix ix_tup (pv 6) pe_int (fun _ _ => rfl)) (pa_cons (pe_ix ix_tup (pv 6) pe_int (fun _ _ => rfl)) pa_nil))) pa_nil)))
      (pss_cons (ps_if (PW.pt (pw_or (pt_not (pt_val (pe_call G_law_is (hr.mono (by decide)) rfl T.mg_law_is T.F_law_is.kp T.b_law_is .nil pass0 (pa_cons (pv 4) (pa_cons (pv 2) pa_nil))))) (pw_or1 (pt_not (pt_val (pe_call G_law_is (hr.mono (by decide)) rfl T.mg_law_is T.F_law_is.kp T.b_law_is .nil pass0 (pa_cons (pe_smeth (pe_glob (v := .ref A.C_Share) rfl T.mg_Share rfl) T.cr_Share T.sm_Share_total G_Share_total (hr.mono (by decide)) T.b_Share_total .nil pass0 (pa_cons (pv 3) pa_nil)) (pa_cons (pe_call G_law_added (hr.mono (by decide)) rfl T.mg_law_added T.F_law_added.kp T.b_law_added .nil pass0 (pa_cons (pe_op op_cat (pv 1) (pe_lst (pa_cons (pv 6) pa_nil))) pa_nil)) pa_nil)))))))) (pss_one (ps_ret pe_bl)) pss_nil)
      (pss_cons (ps_if (PW.pt (pw_or (pt_not (pt_val (pe_call G_law_is (hr.mono (by decide)) rfl T.mg_law_is T.F_law_is.kp T.b_law_is .nil pass0 (pa_cons (pe_smeth (pe_glob (v := .ref A.C_Share) rfl T.mg_Share rfl) T.cr_Share T.sm_Share_total G_Share_total (hr.mono (by decide)) T.b_Share_total .nil pass0 (pa_cons (pe_lst pa_nil) pa_nil)) (pa_cons (pe_tup (pa_cons pe_int (pa_cons pe_int pa_nil))) pa_nil))))) (pw_or (pt_cmpR op_ne (pe_callTy (call_strOwn G_Share_str T.b_Share_str pass0 (hr.mono (by decide)) T.m_Share_str.at_ T.m_Share_str.fn) (by rfl) T.n_str (by decide +kernel) (pa_cons (pe_smeth (pe_glob (v := .ref A.C_Share) rfl T.mg_Share rfl) T.cr_Share T.sm_Share_total G_Share_total (hr.mono (by decide)) T.b_Share_total .nil pass0 (pa_cons (pe_lst pa_nil) pa_nil)) pa_nil)) pe_str (nomark _)) (pw_or1 (pt_val (pe_callTy (call_boolOwn G_Share_bool T.b_Share_bool pass0 (hr.mono (by decide)) T.m_Share_bool.at_ T.m_Share_bool.fn) (by rfl) T.n_bool (by decide +kernel) (pa_cons (pe_make T.mk_Share G_Share_init (hr.mono (by decide)) rfl T.mg_Share b1 v1 pass0 (pa_cons pe_int pa_nil)) pa_nil))))))) (pss_one (ps_ret pe_bl)) pss_nil)
      (pss_one (ps_ret (pe_and (pe_call G_law_refused (hr.mono (by decide)) rfl T.mg_law_refused T.F_law_refused.kp T.b_law_refused .nil pass0 (pa_cons (pe_ix ix_tup (pv 2) pe_int (fun _ _ => rfl)) pa_nil)) (pe_and (pe_call G_law_refused (hr.mono (by decide)) rfl T.mg_law_refused T.F_law_refused.kp T.b_law_refused .nil pass0 (pa_cons pe_int pa_nil)) (pe_one (pe_call G_law_refused (hr.mono (by decide)) rfl T.mg_law_refused T.F_law_refused.kp T.b_law_refused .nil pass0 (pa_cons (pe_ix ix_tup (pv 6) pe_int (fun _ _ => rfl)) pa_nil))))))))))))))))))), ?_⟩
    refine ⟨_, rfl, sa, ns, rfl, hS, fun l ts xs H1 sm1 hnew hl htu hfit hx6 => ?_⟩
    refine ⟨_, rfl, l, ts, xs, rfl, SqL.of hl, htu, hfit, fun dt H2 sm2 hd => ?_⟩
    have hl := sm2 _ _ hl
    have htu := htu.same sm2
    have hS := sm2.seq (sm1.seq hS)
    clear sm1 sm2 hnew
    have big := hfit.big
    have b1' : (added xs).1.natAbs < 2 ^ 1900 := le_lt big.1 (by decide)
    have b2' : (added xs).2.natAbs < 2 ^ 1900 := le_lt big.2 (by decide)
    -- shares = [..]
    refine ⟨_, rfl, l, rfl, ⟨_, SqL.of hl⟩, fun D hD => lc_list (K := K) (a := l) (xs := ts.map V.ref) (fun i H3 => ∃ ss : List Addr, Same H2 H3 ∧ H3 D = some (.lst (ss.map V.ref)) ∧ Shs A.C_Share H3 ss (xs.take i))
      ⟨[], same_new hD, upd_same, Shs.nil⟩ (fun i H3 _ ⟨_, s3, _⟩ => SqL.of (s3 _ _ hl)) ?_ ?_⟩
    · rintro i y H3 hi ⟨ss, s3, h3, hs3⟩
      obtain ⟨t, hti, rfl⟩ := refs_get hi
      obtain ⟨t', x, e1, hxi, o⟩ := (htu.same s3).get (List.getElem?_eq_some_iff.mp hti).1
      rw [hti] at e1
      cases e1
      have fx := hfit.2 x (List.mem_of_getElem? hxi)
      refine ⟨rfl, ?_⟩
      refine ⟨_, rfl, t, _, _, _, rfl, rfl, SqT.of o, at2_0, _, rfl, t, _, _, _, rfl, rfl, SqT.of o, at2_1, ?_⟩
      refine fun z dz nz ndz nez => ⟨z, dz, x.1, x.2, rfl, upd_same, fx.2, le_lt fx.1.2 (by decide), fun n d r => ⟨rfl, ?_⟩⟩
      generalize hX : upd (upd (upd H3 dz _) z _) z _ = H4
      have sm4 : Same H3 H4 := by rw [← hX]; exact same_make nz ndz
      have f4 : FrW A.C_Share H4 z x := by rw [← hX]; exact ⟨n, d, ⟨dz, upd_same⟩, r⟩
      have h4 := sm4 _ _ h3
      refine ⟨_, h4, small_int (by rw [List.length_map, hs3.len, List.length_take]; omega), ss ++ [z], ?_, ?_, ?_⟩
      · intro b o' e
        rw [upd_ne (ne_of_none e hD)]
        exact sm4 _ _ (s3 _ _ e)
      · rw [List.map_append]; exact upd_same
      · rw [take_succ hxi]
        exact ((hs3.same sm4).app f4).upd h4
    rintro H3 ⟨ss, s3, h3, hs⟩
    rw [List.length_map, htu.len, List.take_length] at hs
    have hl3 := s3 _ _ hl
    have htu := htu.same s3
    have hd := s3 _ _ hd
    have hS := s3.seq hS
    have hlD : l ≠ D := ne_of_none hl hD
    have hlss : ss.length = ts.length := by rw [hs.len, htu.len]
    clear hl hD s3
    -- total
    refine ⟨rfl, _, rfl, D, ss, xs, rfl, SqL.of h3, hs, hfit, fun r H4 sm4 fr => ?_⟩
    have hd := sm4 _ _ hd
    have s5' : Same H4 H4 := Same.refl _
    obtain ⟨n, d, sh, rp⟩ := id fr
    have shx := id sh
    obtain ⟨dx, o⟩ := shx
    have zn : n.natAbs < 2 ^ 1900 := Nat.lt_of_le_of_lt rp.le.1 b1'
    have zd : d.natAbs < 2 ^ 1900 := Nat.lt_of_le_of_lt rp.le.2 b2'
    refine ⟨_, rfl, _, rfl, r, dt, added xs, rfl, hd, fr, b1', b2', _, rfl, ?_⟩
    refine iteF ?_
    refine ⟨_, rfl, r, dx, _, rfl, o, r, n, d, rfl, sh, zn, zd, _, rfl, ?_⟩
    refine ⟨_, rfl, dt, _, _, n, d, rfl, hd, b1', b2', rp, ?_⟩
    refine ⟨rfl, _, rfl, ?_⟩
    refine itNe ?_
    refine ⟨_, rfl, r, dx, _, rfl, o, r, n, d, rfl, sh, _, rfl, ?_⟩
    refine ⟨_, rfl, dt, _, _, _, rfl, rfl, SqT.of hd, at2_0, rfl, ?_⟩
    refine ⟨rfl, _, rfl, ?_⟩
    refine itNe' (by rw [ne_0 rp, dV]) ?_
    -- lengths
    have h3 := sm4 _ _ h3
    have hl3 := sm4 _ _ hl3
    have htu := htu.same sm4
    have hs := hs.same sm4
    have hS := sm4.seq hS
    clear sm4
    refine ⟨_, rfl, D, _, rfl, .inl (SqL.of h3), _, rfl, l, _, rfl, .inl (SqL.of hl3), rfl, _, rfl, ?_⟩
    refine itNe' (by rw [List.length_map, List.length_map, hlss]) ?_
    -- one by one
    refine ⟨_, rfl, l, _, rfl, .inl (SqL.of hl3), ?_⟩
    have hL6 : (ts.map V.ref).length ≤ 6 := by rw [List.length_map, htu.len]; exact hx6
    refine ⟨_, rfl, by omega, by omega, for_range (fun j σ H5 => Same H4 H5 ∧ ∃ u : Option V, σ = [some (.ref sa), some (.ref l), some (.ref dt), some (.ref D), some (.ref r), u, none, none]) ⟨Same.refl _, none, rfl⟩ ?_ ?_⟩
    · rintro j σ H5 hj ⟨s5, u, rfl⟩
      have hjt : j < ts.length := by
        have z : ((ts.map V.ref).length : Int).toNat = ts.length := by rw [List.length_map]; omega
        rw [z] at hj; exact hj
      have htu5 := htu.same s5
      have hs5 := hs.same s5
      have h35 := s5 _ _ h3
      have hl5 := s5 _ _ hl3
      obtain ⟨t, x, hti, hxi, ho⟩ := htu5.get hjt
      have hss : ss[j]? = some ss[j] := List.getElem?_eq_getElem (by rw [hlss]; exact hjt)
      generalize ss[j] = sj at hss
      have fx := hfit.2 x (List.mem_of_getElem? hxi)
      have x1 : x.1.natAbs < 2 ^ 1900 := le_lt fx.1.1 (by decide)
      have x2 : x.2.natAbs < 2 ^ 1900 := le_lt fx.1.2 (by decide)
      have fj := hs5.at_ j sj x hss hxi
      obtain ⟨m, e, sh2, rp2⟩ := id fj
      obtain ⟨dy, o2⟩ := id sh2
      have zm : m.natAbs < 2 ^ 1900 := Nat.lt_of_le_of_lt rp2.le.1 x1
      have ze : e.natAbs < 2 ^ 1900 := Nat.lt_of_le_of_lt rp2.le.2 x2
      have aS : atI (ss.map V.ref) (0 + (j : Int)) = some (V.ref sj) := at_ref hss
      have aT : atI (ts.map V.ref) (0 + (j : Int)) = some (V.ref t) := at_ref hti
      refine ⟨_, rfl, _, rfl, D, _, _, _, rfl, rfl, SqL.of h35, aS, _, rfl, _, rfl, l, _, _, _, rfl, rfl, SqL.of hl5, aT, sj, t, x, rfl, ho, fj, x1, x2, _, rfl, ?_⟩
      refine iteF ?_
      refine ⟨_, rfl, _, rfl, D, _, _, _, rfl, rfl, SqL.of h35, aS, sj, dy, _, rfl, o2, sj, m, e, rfl, sh2, zm, ze, _, rfl, ?_⟩
      refine ⟨_, rfl, _, rfl, l, _, _, _, rfl, rfl, SqL.of hl5, aT, t, _, _, m, e, rfl, ho, x1, x2, rp2, ?_⟩
      refine ⟨rfl, _, rfl, ?_⟩
      refine itNe ?_
      refine ⟨rfl, _, rfl, _, rfl, D, _, _, _, rfl, rfl, SqL.of h35, aS, by show 1 ≤ sizeLine; decide, fun l2 hl2 => ?_⟩
      have s6 := same_new (o := .lst [V.ref sj]) hl2
      refine ⟨l2, [sj], [x], rfl, SqL.of upd_same, (Shs.nil.app (fj.same s6)), Fit.one fx, fun q H6 sm6 fq => ?_⟩
      have s56 := s6.trans sm6
      rw [added_one] at fq
      refine ⟨_, rfl, _, rfl, l, _, _, _, rfl, rfl, SqL.of (s56 _ _ hl5), aT, q, t, x, rfl, s56 _ _ ho, fq, x1, x2, _, rfl, ?_⟩
      refine iteF ?_
      exact ⟨s5.trans s56, _, rfl⟩
    rintro σ H5 ⟨s5, u, rfl⟩
    have h3 := s5 _ _ h3
    have hl3 := s5 _ _ hl3
    have htu := htu.same s5
    have hs := hs.same s5
    have hS := s5.seq hS
    have hd := s5 _ _ (s5' _ _ hd)
    have fr := (fr.same s5)
    clear s5
    -- the tuple's total, the reversed list's
    refine ⟨rfl, _, rfl, D, _, rfl, .inl ⟨SqL.of h3, fun l2 hl2 => ?_⟩⟩
    have s6 := same_new (o := .tup (ss.map V.ref)) hl2
    refine ⟨l2, ss, xs, rfl, SqT.of upd_same, hs.same s6, hfit, fun q H6 sm6 fq => ?_⟩
    have s56 := s6.trans sm6
    refine ⟨_, rfl, q, dt, added xs, rfl, s56 _ _ hd, fq, b1', b2', _, rfl, ?_⟩
    refine iteF ?_
    refine ⟨rfl, _, rfl, D, _, rfl, SqL.of (s56 _ _ h3), fun l3 hl3' => ?_⟩
    have s7 := same_new (o := .lst (ss.map V.ref).reverse) hl3'
    refine ⟨l3, ss.reverse, xs.reverse, rfl, SqL.of (by rw [List.map_reverse]; exact upd_same), (hs.rev.same s56).same s7, hfit.rev, fun q2 H7 sm7 fq2 => ?_⟩
    have s57 := s56.trans (s7.trans sm7)
    rw [added_rev] at fq2
    refine ⟨_, rfl, q2, dt, added xs, rfl, s57 _ _ hd, fq2, b1', b2', _, rfl, ?_⟩
    refine iteF ?_
    have h3 := s57 _ _ h3
    have hl3 := s57 _ _ hl3
    have htu := htu.same s57
    have hs := hs.same s57
    have hS := s57.seq hS
    have hd := s57 _ _ hd
    have fr := fr.same s57
    clear s57 sm7 s7 hl3' sm6 s6 s56 fq fq2
    -- extra
    refine ⟨_, rfl, sa, ns, 2, rfl, hS, by decide, fun c2 => .inl ⟨_, rfl, _, _, rfl, rfl, by show (0 : Int) < 41; decide, _, _, rfl, rfl, _, rfl, sa, ns, 3, rfl, hS, by decide, fun c3 => .inl ⟨_, rfl, _, _, rfl, rfl, by show (0 : Int) < 9; decide, _, _, rfl, rfl, by show 2 ≤ sizeLine; decide, fun et het => ?_⟩⟩⟩
    have g0 := Int.emod_nonneg c2 (show (41 : Int) ≠ 0 by decide)
    have g1 := Int.emod_lt_of_pos c2 (show (0 : Int) < 41 by decide)
    have g2 := Int.emod_nonneg c3 (show (9 : Int) ≠ 0 by decide)
    have g3 := Int.emod_lt_of_pos c3 (show (0 : Int) < 9 by decide)
    generalize hX : upd H7 et _ = H8
    have s8 : Same H7 H8 := by rw [← hX]; exact same_new het
    have hex : H8 et = some (.tup [.int (c2 % 41 - 20), .int (1 + c3 % 9)]) := by rw [← hX]; exact upd_same
    clear hX
    generalize hEa : c2 % 41 - 20 = ea at hex
    generalize hEb : 1 + c3 % 9 = eb at hex
    have ea1 : ea.natAbs ≤ 2 ^ 64 := by omega
    have eb1 : eb.natAbs ≤ 2 ^ 64 := by omega
    have eb0 : eb ≠ 0 := by omega
    have h3 := s8 _ _ h3
    have hl3 := s8 _ _ hl3
    have htu := htu.same s8
    have hs := hs.same s8
    have hd := s8 _ _ hd
    have fr := fr.same s8
    refine ⟨_, rfl, .inl ⟨rfl, _, SqL.of h3⟩, _, rfl, et, _, _, _, rfl, rfl, SqT.of hex, at2_0, _, rfl, et, _, _, _, rfl, rfl, SqT.of hex, at2_1, ?_⟩
    refine fun z dz nz ndz nez => ⟨z, dz, ea, eb, rfl, upd_same, eb0, le_lt eb1 (by decide), fun n2 d2 r2 => ⟨rfl, ?_⟩⟩
    generalize hX : upd (upd (upd H8 dz _) z _) z _ = H9
    have s9 : Same H8 H9 := by rw [← hX]; exact same_make nz ndz
    have fz : FrW A.C_Share H9 z (ea, eb) := by rw [← hX]; exact ⟨n2, d2, ⟨dz, upd_same⟩, r2⟩
    clear hX nz ndz nez
    have h3 := s9 _ _ h3
    have hl3 := s9 _ _ hl3
    have htu := htu.same s9
    have hs := hs.same s9
    have hd := s9 _ _ hd
    have fr := fr.same s9
    have hex := s9 _ _ hex
    refine ⟨D, _, _, rfl, rfl, h3, small_int (by rw [List.length_map, hs.len]; omega), ?_⟩
    generalize hX : upd H9 D _ = H10
    have hsx : Shs A.C_Share H10 (ss ++ [z]) (xs ++ [(ea, eb)]) := by rw [← hX]; exact (hs.app fz).upd h3
    have hd : H10 dt = some (.tup [.int (added xs).1, .int (added xs).2]) := by rw [← hX, upd_ne (ne_of hd h3 (by intro z; cases z))]; exact hd
    have hex : H10 et = some (.tup [.int ea, .int eb]) := by rw [← hX, upd_ne (ne_of hex h3 (by intro z; cases z))]; exact hex
    have hl3 : H10 l = some (.lst (ts.map V.ref)) := by rw [← hX, upd_ne hlD]; exact hl3
    have htu : Tups H10 ts xs := by rw [← hX]; exact htu.updL h3
    have fr : FrW A.C_Share H10 r (added xs) := by
      obtain ⟨n, d, ⟨dx, sh⟩, rp⟩ := fr
      rw [← hX]
      exact ⟨n, d, ⟨dx, by rw [upd_ne (ne_of sh h3 (by intro z; cases z))]; exact sh⟩, rp⟩
    have hDx : H10 D = some (.lst ((ss ++ [z]).map V.ref)) := by rw [← hX, List.map_append]; exact upd_same
    clear hX h3
    -- the total stays, the longer list
    have fit2 : Fit 64 (xs ++ [(ea, eb)]) := ⟨by rw [List.length_append]; show xs.length + 1 ≤ 10; omega, fun x hx => by
      rcases List.mem_append.mp hx with hx | hx
      · exact hfit.2 x hx
      · cases List.mem_singleton.mp hx; exact ⟨⟨ea1, eb1⟩, eb0⟩⟩
    have big2 := fit2.big
    have c1' : (added (xs ++ [(ea, eb)])).1.natAbs < 2 ^ 1900 := le_lt big2.1 (by decide)
    have c2' : (added (xs ++ [(ea, eb)])).2.natAbs < 2 ^ 1900 := le_lt big2.2 (by decide)
    refine ⟨_, rfl, _, rfl, r, dt, added xs, rfl, hd, fr, b1', b2', _, rfl, ?_⟩
    refine iteF ?_
    refine ⟨rfl, _, rfl, D, ss ++ [z], xs ++ [(ea, eb)], rfl, SqL.of hDx, hsx, fit2, fun q H11 sm11 fq => ?_⟩
    have hl3 := sm11 _ _ hl3
    have hex := sm11 _ _ hex
    have htu := htu.same sm11
    have hd := sm11 _ _ hd
    refine ⟨_, rfl, _, rfl, by show 1 ≤ sizeLine; decide, fun l4 hl4 => ?_⟩
    have s12 := same_new (o := .lst [V.ref et]) hl4
    refine ⟨l, l4, _, _, rfl, rfl, s12 _ _ hl3, upd_same, ?_, fun l5 hl5 => ?_⟩
    · show (ts.map V.ref).length + 1 ≤ sizeLine
      rw [List.length_map, htu.len]
      exact le_sz (show xs.length + 1 ≤ 7 by omega) (by decide)
    have s13 := s12.trans (same_new (o := .lst (ts.map V.ref ++ [V.ref et])) hl5)
    refine ⟨l5, ts ++ [et], xs ++ [(ea, eb)], rfl, SqL.of (by rw [List.map_append]; exact upd_same), (htu.same s13).app (s13 _ _ hex), fit2, fun dt2 H12 sm12 hd2 => ?_⟩
    have s14 := s13.trans sm12
    refine ⟨q, dt2, _, rfl, hd2, fq.same s14, c1', c2', _, rfl, ?_⟩
    refine iteF ?_
    have hd := s14 _ _ hd
    have hex := s14 _ _ hex
    clear s14 sm12 s13 s12 hl5 hl4 htu hl3 hDx hsx fr sm11
    -- the empty list
    refine ⟨rfl, by show 0 ≤ sizeLine; decide, fun l6 hl6 => ?_⟩
    refine ⟨l6, [], [], rfl, SqL.of upd_same, Shs.nil, ⟨by decide, fun x h => nomatch h⟩, fun q3 H13 sm13 fq3 => ?_⟩
    refine ⟨by show 2 ≤ sizeLine; decide, fun t3 ht3 => ?_⟩
    refine ⟨q3, t3, (0, 1), rfl, upd_same, fq3.same (same_new ht3), (show (0 : Int).natAbs < 2 ^ 1900 by decide), (show (1 : Int).natAbs < 2 ^ 1900 by decide), _, rfl, ?_⟩
    refine iteF ?_
    have s15 := (same_new (o := .lst []) hl6).trans (sm13.trans (same_new (o := .tup [V.int 0, V.int 1]) ht3))
    have hd := s15 _ _ hd
    have hex := s15 _ _ hex
    clear s15 fq3 sm13
    generalize hX : upd H13 t3 _ = H14 at hd hex ⊢
    refine ⟨rfl, by show 0 ≤ sizeLine; decide, fun l7 hl7 => ?_⟩
    refine ⟨l7, [], [], rfl, SqL.of upd_same, Shs.nil, ⟨by decide, fun x h => nomatch h⟩, fun q4 H15 sm15 fq4 => ?_⟩
    obtain ⟨n4, d4, sh4, r4⟩ := fq4
    obtain ⟨dw, o4⟩ := id sh4
    have e4 := r4.muls
    have g1 : redG (added []).1 (added []).2 = 1 := by decide
    rw [g1, Int.mul_one, Int.mul_one] at e4
    have e41 : n4 = 0 := e4.1
    have e42 : d4 = 1 := e4.2
    subst e41 e42
    refine ⟨q4, dw, _, rfl, o4, q4, 0, 1, rfl, sh4, by decide, by decide, _, rfl, ?_⟩
    refine ⟨rfl, _, rfl, ?_⟩
    refine itNe' (by rw [txt0]) ?_
    have s16 := (same_new (o := .lst []) hl7).trans sm15
    have hd := s16 _ _ hd
    have hex := s16 _ _ hex
    refine fun z2 dz2 nz ndz nez => ⟨z2, dz2, 0, 1, rfl, upd_same, by decide, by decide, fun n5 d5 r5 => ⟨rfl, ?_⟩⟩
    have e5 := r5.muls
    have g2 : redG 0 1 = 1 := by decide
    rw [g2, Int.mul_one, Int.mul_one] at e5
    obtain ⟨e51, e52⟩ := e5
    subst e51 e52
    generalize hX2 : upd (upd (upd H15 dz2 _) z2 _) z2 _ = H16
    have s17 : Same H15 H16 := by rw [← hX2]; exact same_make nz ndz
    have o5 : H16 z2 = some (.ins A.C_Share dz2 (flds 0 1)) := by rw [← hX2]; exact upd_same
    refine ⟨z2, dz2, _, rfl, o5, z2, 0, 1, rfl, ⟨dz2, o5⟩, _, rfl, _, rfl, ?_⟩
    refine iteF ?_
    have hd := s17 _ _ hd
    have hex := s17 _ _ hex
    refine ⟨_, rfl, dt, _, _, _, rfl, rfl, SqT.of hd, at2_0, _, rfl, b1', fun H17 sm17 => ⟨_, rfl, ?_⟩⟩
    refine iteT ?_
    refine ⟨0, rfl, by decide, fun H18 sm18 => ⟨_, rfl, ?_⟩⟩
    refine iteT ?_
    exact ⟨_, rfl, et, _, _, _, rfl, rfl, SqT.of (sm18 _ _ (sm17 _ _ hex)), at2_0, ea, rfl, le_lt ea1 (by decide), fun H19 _ => k H19⟩
end
end My
set_option maxRecDepth 100000
set_option maxHeartbeats 4000000
set_option exponentiation.threshold 10000
namespace My
open PySem L2
theorem all_mk {l : PySem.W.OpenLaw} {w : World} {K : PySem.W.Frag} {h : Heap} {mg : Str → Option Value} {fa C_Share C_RowsError C_Unknown C_Impossible C_BadShare C_BadNumber p_Share_total a_Share_init a_Share_total a_Share_add a_Share_bool a_Share_str a_law_cell a_law_pool a_law_part a_law_common a_law_added a_law_text a_law_is a_law_refused a_law_parts a_law : Addr} (X : K.In h) (G : h.Ns mainGlobals mg) (hfa : mg "law" = some (.ref fa))
    {rest_Share_total : List Value}
    {oc_Share_init kV_Share_init dc_Share_init pm_Share_init cd_Share_init ct_Share_init : Value} {od_Share_init an_Share_init : Option Addr} {sl_Share_init : Array (Option Value)}
    {TD_Share_init : Addr} {to_Share_init : Option Addr} {tn_Share_init : Nat} {ts_Share_init : Array (Option Value)} {dt_Share_init : Tok}
    {oc_Share_total kV_Share_total dc_Share_total pm_Share_total cd_Share_total ct_Share_total : Value} {od_Share_total an_Share_total : Option Addr} {sl_Share_total : Array (Option Value)}
    {oc_Share_add kV_Share_add dc_Share_add pm_Share_add cd_Share_add ct_Share_add : Value} {od_Share_add an_Share_add : Option Addr} {sl_Share_add : Array (Option Value)}
    {oc_Share_bool kV_Share_bool dc_Share_bool pm_Share_bool cd_Share_bool ct_Share_bool : Value} {od_Share_bool an_Share_bool : Option Addr} {sl_Share_bool : Array (Option Value)}
    {oc_Share_str kV_Share_str dc_Share_str pm_Share_str cd_Share_str ct_Share_str : Value} {od_Share_str an_Share_str : Option Addr} {sl_Share_str : Array (Option Value)}
    {oc_law_cell kV_law_cell dc_law_cell pm_law_cell cd_law_cell ct_law_cell : Value} {od_law_cell an_law_cell : Option Addr} {sl_law_cell : Array (Option Value)}
    {oc_law_pool kV_law_pool dc_law_pool pm_law_pool cd_law_pool ct_law_pool : Value} {od_law_pool an_law_pool : Option Addr} {sl_law_pool : Array (Option Value)}
    {oc_law_part kV_law_part dc_law_part pm_law_part cd_law_part ct_law_part : Value} {od_law_part an_law_part : Option Addr} {sl_law_part : Array (Option Value)}
    {oc_law_common kV_law_common dc_law_common pm_law_common cd_law_common ct_law_common : Value} {od_law_common an_law_common : Option Addr} {sl_law_common : Array (Option Value)}
    {oc_law_added kV_law_added dc_law_added pm_law_added cd_law_added ct_law_added : Value} {od_law_added an_law_added : Option Addr} {sl_law_added : Array (Option Value)}
    {oc_law_text kV_law_text dc_law_text pm_law_text cd_law_text ct_law_text : Value} {od_law_text an_law_text : Option Addr} {sl_law_text : Array (Option Value)}
    {oc_law_is kV_law_is dc_law_is pm_law_is cd_law_is ct_law_is : Value} {od_law_is an_law_is : Option Addr} {sl_law_is : Array (Option Value)}
    {oc_law_refused kV_law_refused dc_law_refused pm_law_refused cd_law_refused ct_law_refused : Value} {od_law_refused an_law_refused : Option Addr} {sl_law_refused : Array (Option Value)}
    {oc_law_parts kV_law_parts dc_law_parts pm_law_parts cd_law_parts ct_law_parts : Value} {od_law_parts an_law_parts : Option Addr} {sl_law_parts : Array (Option Value)}
    {oc_law kV_law dc_law pm_law cd_law ct_law : Value} {od_law an_law : Option Addr} {sl_law : Array (Option Value)}
    (xmg_Share : PySem.W.nsIn K mainGlobals "Share" = some (some (.ref C_Share)))
    (xmg_RowsError : PySem.W.nsIn K mainGlobals "RowsError" = some (some (.ref C_RowsError)))
    (xmg_Unknown : PySem.W.nsIn K mainGlobals "Unknown" = some (some (.ref C_Unknown)))
    (xmg_Impossible : PySem.W.nsIn K mainGlobals "Impossible" = some (some (.ref C_Impossible)))
    (xmg_BadShare : PySem.W.nsIn K mainGlobals "BadShare" = some (some (.ref C_BadShare)))
    (xmg_BadNumber : PySem.W.nsIn K mainGlobals "BadNumber" = some (some (.ref C_BadNumber)))
    (sf_Share_total : PySem.W.findCls K (.ref C_Share) (.type "type") "total" = some (.get (.builtin "staticmethod.__get__") (.ref p_Share_total) .none (.ref C_Share)))
    (sg_Share_total : PySem.W.recIn K p_Share_total "staticmethod" = some (.ref a_Share_total :: rest_Share_total))
    (am_Share_init : PySem.W.findIn K (.ref C_Share) "__init__" = some (some (.ref a_Share_init)))
    (am_Share_add : PySem.W.findIn K (.ref C_Share) "__add__" = some (some (.ref a_Share_add)))
    (am_Share_bool : PySem.W.findIn K (.ref C_Share) "__bool__" = some (some (.ref a_Share_bool)))
    (am_Share_str : PySem.W.findIn K (.ref C_Share) "__str__" = some (some (.ref a_Share_str)))
    (xmg_law_cell : PySem.W.nsIn K mainGlobals "_law_cell" = some (some (.ref a_law_cell)))
    (xmg_law_pool : PySem.W.nsIn K mainGlobals "_law_pool" = some (some (.ref a_law_pool)))
    (xmg_law_part : PySem.W.nsIn K mainGlobals "_law_part" = some (some (.ref a_law_part)))
    (xmg_law_common : PySem.W.nsIn K mainGlobals "_law_common" = some (some (.ref a_law_common)))
    (xmg_law_added : PySem.W.nsIn K mainGlobals "_law_added" = some (some (.ref a_law_added)))
    (xmg_law_text : PySem.W.nsIn K mainGlobals "_law_text" = some (some (.ref a_law_text)))
    (xmg_law_is : PySem.W.nsIn K mainGlobals "_law_is" = some (some (.ref a_law_is)))
    (xmg_law_refused : PySem.W.nsIn K mainGlobals "_law_refused" = some (some (.ref a_law_refused)))
    (xmg_law_parts : PySem.W.nsIn K mainGlobals "_law_parts" = some (some (.ref a_law_parts)))
    (xmg_law : PySem.W.nsIn K mainGlobals "law" = some (some (.ref a_law)))
    (if_Share_init : PySem.W.isFn K (.ref a_Share_init) = true)
    (if_Share_add : PySem.W.isFn K (.ref a_Share_add) = true)
    (if_Share_bool : PySem.W.isFn K (.ref a_Share_bool) = true)
    (if_Share_str : PySem.W.isFn K (.ref a_Share_str) = true)
    (l_Share_init : K.lookup a_Share_init = some ⟨oc_Share_init, od_Share_init, .func (PySem.W.fnOf "__init__" "Share.__init__" (defArgs s_Share_init) (defBody s_Share_init) (defScope s_Share_init) (.ref TD_Share_init) kV_Share_init dc_Share_init pm_Share_init an_Share_init cd_Share_init ct_Share_init), sl_Share_init⟩)
    (l_Share_total : K.lookup a_Share_total = some ⟨oc_Share_total, od_Share_total, .func (PySem.W.fnOf "total" "Share.total" (defArgs s_Share_total) (defBody s_Share_total) (defScope s_Share_total) .none kV_Share_total dc_Share_total pm_Share_total an_Share_total cd_Share_total ct_Share_total), sl_Share_total⟩)
    (l_Share_add : K.lookup a_Share_add = some ⟨oc_Share_add, od_Share_add, .func (PySem.W.fnOf "__add__" "Share.__add__" (defArgs s_Share_add) (defBody s_Share_add) (defScope s_Share_add) .none kV_Share_add dc_Share_add pm_Share_add an_Share_add cd_Share_add ct_Share_add), sl_Share_add⟩)
    (l_Share_bool : K.lookup a_Share_bool = some ⟨oc_Share_bool, od_Share_bool, .func (PySem.W.fnOf "__bool__" "Share.__bool__" (defArgs s_Share_bool) (defBody s_Share_bool) (defScope s_Share_bool) .none kV_Share_bool dc_Share_bool pm_Share_bool an_Share_bool cd_Share_bool ct_Share_bool), sl_Share_bool⟩)
    (l_Share_str : K.lookup a_Share_str = some ⟨oc_Share_str, od_Share_str, .func (PySem.W.fnOf "__str__" "Share.__str__" (defArgs s_Share_str) (defBody s_Share_str) (defScope s_Share_str) .none kV_Share_str dc_Share_str pm_Share_str an_Share_str cd_Share_str ct_Share_str), sl_Share_str⟩)
    (l_law_cell : K.lookup a_law_cell = some ⟨oc_law_cell, od_law_cell, .func (PySem.W.fnOf "_law_cell" "_law_cell" (defArgs s_law_cell) (defBody s_law_cell) (defScope s_law_cell) .none kV_law_cell dc_law_cell pm_law_cell an_law_cell cd_law_cell ct_law_cell), sl_law_cell⟩)
    (l_law_pool : K.lookup a_law_pool = some ⟨oc_law_pool, od_law_pool, .func (PySem.W.fnOf "_law_pool" "_law_pool" (defArgs s_law_pool) (defBody s_law_pool) (defScope s_law_pool) .none kV_law_pool dc_law_pool pm_law_pool an_law_pool cd_law_pool ct_law_pool), sl_law_pool⟩)
    (l_law_part : K.lookup a_law_part = some ⟨oc_law_part, od_law_part, .func (PySem.W.fnOf "_law_part" "_law_part" (defArgs s_law_part) (defBody s_law_part) (defScope s_law_part) .none kV_law_part dc_law_part pm_law_part an_law_part cd_law_part ct_law_part), sl_law_part⟩)
    (l_law_common : K.lookup a_law_common = some ⟨oc_law_common, od_law_common, .func (PySem.W.fnOf "_law_common" "_law_common" (defArgs s_law_common) (defBody s_law_common) (defScope s_law_common) .none kV_law_common dc_law_common pm_law_common an_law_common cd_law_common ct_law_common), sl_law_common⟩)
    (l_law_added : K.lookup a_law_added = some ⟨oc_law_added, od_law_added, .func (PySem.W.fnOf "_law_added" "_law_added" (defArgs s_law_added) (defBody s_law_added) (defScope s_law_added) .none kV_law_added dc_law_added pm_law_added an_law_added cd_law_added ct_law_added), sl_law_added⟩)
    (l_law_text : K.lookup a_law_text = some ⟨oc_law_text, od_law_text, .func (PySem.W.fnOf "_law_text" "_law_text" (defArgs s_law_text) (defBody s_law_text) (defScope s_law_text) .none kV_law_text dc_law_text pm_law_text an_law_text cd_law_text ct_law_text), sl_law_text⟩)
    (l_law_is : K.lookup a_law_is = some ⟨oc_law_is, od_law_is, .func (PySem.W.fnOf "_law_is" "_law_is" (defArgs s_law_is) (defBody s_law_is) (defScope s_law_is) .none kV_law_is dc_law_is pm_law_is an_law_is cd_law_is ct_law_is), sl_law_is⟩)
    (l_law_refused : K.lookup a_law_refused = some ⟨oc_law_refused, od_law_refused, .func (PySem.W.fnOf "_law_refused" "_law_refused" (defArgs s_law_refused) (defBody s_law_refused) (defScope s_law_refused) .none kV_law_refused dc_law_refused pm_law_refused an_law_refused cd_law_refused ct_law_refused), sl_law_refused⟩)
    (l_law_parts : K.lookup a_law_parts = some ⟨oc_law_parts, od_law_parts, .func (PySem.W.fnOf "_law_parts" "_law_parts" (defArgs s_law_parts) (defBody s_law_parts) (defScope s_law_parts) .none kV_law_parts dc_law_parts pm_law_parts an_law_parts cd_law_parts ct_law_parts), sl_law_parts⟩)
    (l_law : K.lookup a_law = some ⟨oc_law, od_law, .func (PySem.W.fnOf "law" "law" (defArgs s_law) (defBody s_law) (defScope s_law) .none kV_law dc_law pm_law an_law cd_law ct_law), sl_law⟩)
    (c_Share_init : PySem.W.codeIn K cd_Share_init "Share.__init__" = true)
    (k_Share_init : PySem.W.keepIn K (.ref a_Share_init) = true)
    (lt_Share_init : K.lookup TD_Share_init = some ⟨.type "tuple", to_Share_init, .seq #[.int 1 dt_Share_init] tn_Share_init, ts_Share_init⟩)
    (c_Share_total : PySem.W.codeIn K cd_Share_total "Share.total" = true)
    (k_Share_total : PySem.W.keepIn K (.ref a_Share_total) = true)
    (c_Share_add : PySem.W.codeIn K cd_Share_add "Share.__add__" = true)
    (k_Share_add : PySem.W.keepIn K (.ref a_Share_add) = true)
    (c_Share_bool : PySem.W.codeIn K cd_Share_bool "Share.__bool__" = true)
    (k_Share_bool : PySem.W.keepIn K (.ref a_Share_bool) = true)
    (c_Share_str : PySem.W.codeIn K cd_Share_str "Share.__str__" = true)
    (k_Share_str : PySem.W.keepIn K (.ref a_Share_str) = true)
    (c_law_cell : PySem.W.codeIn K cd_law_cell "_law_cell" = true)
    (k_law_cell : PySem.W.keepIn K (.ref a_law_cell) = true)
    (c_law_pool : PySem.W.codeIn K cd_law_pool "_law_pool" = true)
    (k_law_pool : PySem.W.keepIn K (.ref a_law_pool) = true)
    (c_law_part : PySem.W.codeIn K cd_law_part "_law_part" = true)
    (k_law_part : PySem.W.keepIn K (.ref a_law_part) = true)
    (c_law_common : PySem.W.codeIn K cd_law_common "_law_common" = true)
    (k_law_common : PySem.W.keepIn K (.ref a_law_common) = true)
    (c_law_added : PySem.W.codeIn K cd_law_added "_law_added" = true)
    (k_law_added : PySem.W.keepIn K (.ref a_law_added) = true)
    (c_law_text : PySem.W.codeIn K cd_law_text "_law_text" = true)
    (k_law_text : PySem.W.keepIn K (.ref a_law_text) = true)
    (c_law_is : PySem.W.codeIn K cd_law_is "_law_is" = true)
    (k_law_is : PySem.W.keepIn K (.ref a_law_is) = true)
    (c_law_refused : PySem.W.codeIn K cd_law_refused "_law_refused" = true)
    (k_law_refused : PySem.W.keepIn K (.ref a_law_refused) = true)
    (c_law_parts : PySem.W.codeIn K cd_law_parts "_law_parts" = true)
    (k_law_parts : PySem.W.keepIn K (.ref a_law_parts) = true)
    (c_law : PySem.W.codeIn K cd_law "law" = true)
    (k_law : PySem.W.keepIn K (.ref a_law) = true)
    (pgcl_Share : PySem.W.plainGet K C_Share Str.empty = true)
    (hdcl_Share : PySem.W.hasDictIn K C_Share = true)
    (pocl_Share : PySem.W.plainOver K C_Share = true)
    (sacl_Share : PySem.W.findIn K (.ref C_Share) "__setattr__" = some (some (.builtin "object.__setattr__")))
    (xsf_Share : PySem.W.selfFirst K C_Share = true)
    (kmk_Share : PySem.W.makesIn K C_Share = true)
    (kkmk_Share : PySem.W.keepIn K (.ref C_Share) = true)
    (xc1_Share : PySem.W.findIn K (.ref C_Share) "__class__" = some (some (.builtin "object.__class__")))
    (xc3_Share : PySem.W.mroIn K C_Share (.type "object") = some true)
    (xn_Share_num : PySem.W.findIn K (.ref C_Share) "num" = some none)
    (xn_Share_den : PySem.W.findIn K (.ref C_Share) "den" = some none)
    (xc2 : PySem.W.specialIn K (.builtin "object.__class__") "__get__" = some (some (.builtin "getset_descriptor.__get__")))
    (xc4 : PySem.W.takesIn K (.builtin "object.__class__") = some true)
    (xtp_RowsError : PySem.W.typeIn K (.ref C_RowsError) = some (.type "type"))
    (xic_RowsError : PySem.W.isClsIn K C_RowsError = true)
    (xtp_Unknown : PySem.W.typeIn K (.ref C_Unknown) = some (.type "type"))
    (xic_Unknown : PySem.W.isClsIn K C_Unknown = true)
    (xtp_Impossible : PySem.W.typeIn K (.ref C_Impossible) = some (.type "type"))
    (xic_Impossible : PySem.W.isClsIn K C_Impossible = true)
    (xtp_BadShare : PySem.W.typeIn K (.ref C_BadShare) = some (.type "type"))
    (xic_BadShare : PySem.W.isClsIn K C_BadShare = true)
    (xtp_BadNumber : PySem.W.typeIn K (.ref C_BadNumber) = some (.type "type"))
    (xic_BadNumber : PySem.W.isClsIn K C_BadNumber = true)
    (xx_BadShare : PySem.W.excIn K C_BadShare [.type "ValueError", .type "Exception", .type "BaseException", .type "object"] "ValueError.__new__" = true)
    (xk_BadShare : PySem.W.keepIn K (.ref C_BadShare) = true)
    (xbp_BadShare : PySem.W.subIn K (.ref C_BadShare) (.type "BaseException") = some true)
    (xsv_BadShare : PySem.W.subIn K (.ref C_BadShare) (.type "ValueError") = some true)
    (xss_BadShare : PySem.W.subIn K (.ref C_BadShare) (.ref C_BadShare) = some true)
    (xsu_BadShare_RowsError : PySem.W.subIn K (.ref C_BadShare) (.ref C_RowsError) = some true)
    (xsu_BadShare_Unknown : PySem.W.subIn K (.ref C_BadShare) (.ref C_Unknown) = some false)
    (xsu_BadShare_Impossible : PySem.W.subIn K (.ref C_BadShare) (.ref C_Impossible) = some false)
    (xsu_BadShare_BadNumber : PySem.W.subIn K (.ref C_BadShare) (.ref C_BadNumber) = some false)
    (xe1_BadShare : PySem.W.findIn K (.ref C_BadShare) "__getattribute__" = some (some (.builtin "BaseException.__getattribute__")))
    (xe2_BadShare : PySem.W.findIn K (.ref C_BadShare) "__getattr__" = some none)
    (xe3_BadShare : PySem.W.hasDictIn K C_BadShare = true)
    (xe4_BadShare : PySem.W.findIn K (.ref C_BadShare) "__class__" = some (some (.builtin "object.__class__")))
    (xe5_BadShare : PySem.W.mroIn K C_BadShare (.type "object") = some true)
    (r1cr_Share : PySem.W.readsIn K C_Share (.type "type") = true)
    (r2cr_Share : PySem.W.specialIn K (.ref C_Share) "__getattribute__" = some (some (.builtin "type.__getattribute__")))
    (xn_abs : PySem.W.nsIn K mainGlobals "abs" = some none)
    (xn_int : PySem.W.nsIn K mainGlobals "int" = some none)
    (xn_bool : PySem.W.nsIn K mainGlobals "bool" = some none)
    (xn_isinstance : PySem.W.nsIn K mainGlobals "isinstance" = some none)
    (xn_range : PySem.W.nsIn K mainGlobals "range" = some none)
    (xn_len : PySem.W.nsIn K mainGlobals "len" = some none)
    (xn_str : PySem.W.nsIn K mainGlobals "str" = some none)
    (xn_tuple : PySem.W.nsIn K mainGlobals "tuple" = some none)
    (xn_ValueError : PySem.W.nsIn K mainGlobals "ValueError" = some none)
    (xmg_gcd : PySem.W.nsIn K mainGlobals "gcd" = some (some (.builtin "math.gcd")))
    (xsx_Share : PySem.W.subIn K (.ref C_Share) (.type "int") = some false)
    (xds_Share_add : PySem.W.findIn K (.ref C_Share) (PySem.dunder "add") = some (some (.ref a_Share_add)))
    : ∃ fd : FuncData, (∀ (s : Shared) (v : Value), BindsTo s fd ⟨[v], []⟩ [("script", v)]) ∧ ∀ base : Heap, K.In base → base.Ns mainGlobals mg → FnOk l.prog w K mg base CX0 9 fa fd ["script"] (spLaw K) := by
  have e := hfa.symm.trans (PySem.W.mg_of X G xmg_law)
  cases e
  have T : Txt K mg ⟨C_Share, C_RowsError, C_Unknown, C_Impossible, C_BadShare, C_BadNumber, p_Share_total, a_Share_init, _, a_Share_total, _, a_Share_add, _, a_Share_bool, _, a_Share_str, _, a_law_cell, _, a_law_pool, _, a_law_part, _, a_law_common, _, a_law_added, _, a_law_text, _, a_law_is, _, a_law_refused, _, a_law_parts, _, fa, _⟩ := {
    mg_Share := PySem.W.mg_of X G xmg_Share
    cl_Share := ⟨pgcl_Share, hdcl_Share, pocl_Share, sacl_Share⟩
    sf_Share := xsf_Share
    mk_Share := ⟨kmk_Share, am_Share_init, if_Share_init, kkmk_Share⟩
    c1_Share := xc1_Share
    c3_Share := xc3_Share
    n_Share_num := xn_Share_num
    n_Share_den := xn_Share_den
    c2 := xc2
    c4 := xc4
    mg_RowsError := PySem.W.mg_of X G xmg_RowsError
    tp_RowsError := xtp_RowsError
    ic_RowsError := xic_RowsError
    mg_Unknown := PySem.W.mg_of X G xmg_Unknown
    tp_Unknown := xtp_Unknown
    ic_Unknown := xic_Unknown
    mg_Impossible := PySem.W.mg_of X G xmg_Impossible
    tp_Impossible := xtp_Impossible
    ic_Impossible := xic_Impossible
    mg_BadShare := PySem.W.mg_of X G xmg_BadShare
    tp_BadShare := xtp_BadShare
    ic_BadShare := xic_BadShare
    mg_BadNumber := PySem.W.mg_of X G xmg_BadNumber
    tp_BadNumber := xtp_BadNumber
    ic_BadNumber := xic_BadNumber
    x_BadShare := xx_BadShare
    k_BadShare := xk_BadShare
    bp_BadShare := xbp_BadShare
    sv_BadShare := xsv_BadShare
    ss_BadShare := xss_BadShare
    su_BadShare_RowsError := xsu_BadShare_RowsError
    su_BadShare_Unknown := xsu_BadShare_Unknown
    su_BadShare_Impossible := xsu_BadShare_Impossible
    su_BadShare_BadNumber := xsu_BadShare_BadNumber
    e1_BadShare := xe1_BadShare
    e2_BadShare := xe2_BadShare
    e3_BadShare := xe3_BadShare
    e4_BadShare := xe4_BadShare
    e5_BadShare := xe5_BadShare
    cr_Share := ⟨r1cr_Share, r2cr_Share⟩
    sm_Share_total := ⟨sf_Share_total, ⟨_, sg_Share_total⟩, k_Share_total⟩
    n_abs := PySem.W.mg_none_of X G xn_abs
    n_int := PySem.W.mg_none_of X G xn_int
    n_bool := PySem.W.mg_none_of X G xn_bool
    n_isinstance := PySem.W.mg_none_of X G xn_isinstance
    n_range := PySem.W.mg_none_of X G xn_range
    n_len := PySem.W.mg_none_of X G xn_len
    n_str := PySem.W.mg_none_of X G xn_str
    n_tuple := PySem.W.mg_none_of X G xn_tuple
    n_ValueError := PySem.W.mg_none_of X G xn_ValueError
    mg_gcd := PySem.W.mg_of X G xmg_gcd
    sx_Share := xsx_Share
    F_Share_init := ⟨⟨_, _, _, _, _, _, _, _, _, _, rfl, l_Share_init, c_Share_init, .inr ⟨by simp, TD_Share_init, _, [.int 1 dt_Share_init], _, rfl, lt_Share_init, rfl, .cons ⟨_, rfl⟩ .nil⟩, .inl rfl⟩, k_Share_init⟩
    m_Share_init := ⟨am_Share_init, if_Share_init, k_Share_init⟩
    F_Share_total := fun_mk (st := s_Share_total) l_Share_total c_Share_total k_Share_total
    b_Share_total := (fun_mk (st := s_Share_total) l_Share_total c_Share_total k_Share_total).binds fun _ _ _ _ _ _ us hl => match us, hl with | [_], _ => rfl
    F_Share_add := fun_mk (st := s_Share_add) l_Share_add c_Share_add k_Share_add
    b_Share_add := (fun_mk (st := s_Share_add) l_Share_add c_Share_add k_Share_add).binds fun _ _ _ _ _ _ us hl => match us, hl with | [_, _], _ => rfl
    m_Share_add := ⟨am_Share_add, if_Share_add, k_Share_add⟩
    ds_Share_add := xds_Share_add
    F_Share_bool := fun_mk (st := s_Share_bool) l_Share_bool c_Share_bool k_Share_bool
    b_Share_bool := (fun_mk (st := s_Share_bool) l_Share_bool c_Share_bool k_Share_bool).binds fun _ _ _ _ _ _ us hl => match us, hl with | [_], _ => rfl
    m_Share_bool := ⟨am_Share_bool, if_Share_bool, k_Share_bool⟩
    F_Share_str := fun_mk (st := s_Share_str) l_Share_str c_Share_str k_Share_str
    b_Share_str := (fun_mk (st := s_Share_str) l_Share_str c_Share_str k_Share_str).binds fun _ _ _ _ _ _ us hl => match us, hl with | [_], _ => rfl
    m_Share_str := ⟨am_Share_str, if_Share_str, k_Share_str⟩
    F_law_cell := fun_mk (st := s_law_cell) l_law_cell c_law_cell k_law_cell
    b_law_cell := (fun_mk (st := s_law_cell) l_law_cell c_law_cell k_law_cell).binds fun _ _ _ _ _ _ us hl => match us, hl with | [_, _], _ => rfl
    mg_law_cell := PySem.W.mg_of X G xmg_law_cell
    F_law_pool := fun_mk (st := s_law_pool) l_law_pool c_law_pool k_law_pool
    b_law_pool := (fun_mk (st := s_law_pool) l_law_pool c_law_pool k_law_pool).binds fun _ _ _ _ _ _ us hl => match us, hl with | [_, _, _], _ => rfl
    mg_law_pool := PySem.W.mg_of X G xmg_law_pool
    F_law_part := fun_mk (st := s_law_part) l_law_part c_law_part k_law_part
    b_law_part := (fun_mk (st := s_law_part) l_law_part c_law_part k_law_part).binds fun _ _ _ _ _ _ us hl => match us, hl with | [_, _, _], _ => rfl
    mg_law_part := PySem.W.mg_of X G xmg_law_part
    F_law_common := fun_mk (st := s_law_common) l_law_common c_law_common k_law_common
    b_law_common := (fun_mk (st := s_law_common) l_law_common c_law_common k_law_common).binds fun _ _ _ _ _ _ us hl => match us, hl with | [_, _], _ => rfl
    mg_law_common := PySem.W.mg_of X G xmg_law_common
    F_law_added := fun_mk (st := s_law_added) l_law_added c_law_added k_law_added
    b_law_added := (fun_mk (st := s_law_added) l_law_added c_law_added k_law_added).binds fun _ _ _ _ _ _ us hl => match us, hl with | [_], _ => rfl
    mg_law_added := PySem.W.mg_of X G xmg_law_added
    F_law_text := fun_mk (st := s_law_text) l_law_text c_law_text k_law_text
    b_law_text := (fun_mk (st := s_law_text) l_law_text c_law_text k_law_text).binds fun _ _ _ _ _ _ us hl => match us, hl with | [_], _ => rfl
    mg_law_text := PySem.W.mg_of X G xmg_law_text
    F_law_is := fun_mk (st := s_law_is) l_law_is c_law_is k_law_is
    b_law_is := (fun_mk (st := s_law_is) l_law_is c_law_is k_law_is).binds fun _ _ _ _ _ _ us hl => match us, hl with | [_, _], _ => rfl
    mg_law_is := PySem.W.mg_of X G xmg_law_is
    F_law_refused := fun_mk (st := s_law_refused) l_law_refused c_law_refused k_law_refused
    b_law_refused := (fun_mk (st := s_law_refused) l_law_refused c_law_refused k_law_refused).binds fun _ _ _ _ _ _ us hl => match us, hl with | [_], _ => rfl
    mg_law_refused := PySem.W.mg_of X G xmg_law_refused
    F_law_parts := fun_mk (st := s_law_parts) l_law_parts c_law_parts k_law_parts
    b_law_parts := (fun_mk (st := s_law_parts) l_law_parts c_law_parts k_law_parts).binds fun _ _ _ _ _ _ us hl => match us, hl with | [_], _ => rfl
    mg_law_parts := PySem.W.mg_of X G xmg_law_parts
    F_law := fun_mk (st := s_law) l_law c_law k_law
    b_law := (fun_mk (st := s_law) l_law c_law k_law).binds fun _ _ _ _ _ _ us hl => match us, hl with | [_], _ => rfl
    mg_law := PySem.W.mg_of X G xmg_law
  }
  exact ⟨_, fun s v => .of_eq rfl, fun base _ _ => ok_law T⟩
theorem walk {l : PySem.W.OpenLaw} {q : Program} {loose : List Str} {XP : (Str → Option Value) → Heap → Prop} {YP : World → Heap → Prop} {d : DefRec} {K : Params → PySem.W.Frag} (hn : l.most = some 63) (hdf : d.params.defaults = [])
    (hY : ∀ (w : World) (h : Heap), YP w h → (K w.params).In h)
    (F : ∀ (w : World) (mg : Str → Option Value) (fa : Addr) (h : Heap), (K w.params).In h → h.Ns mainGlobals mg → mg d.name = some (.ref fa) →
      ∃ fd : FuncData, (∀ (s : Shared) (u : Value), BindsTo s fd ⟨[u], []⟩ [("script", u)]) ∧ ∀ base : Heap, (K w.params).In base → base.Ns mainGlobals mg → FnOk l.prog w (K w.params) mg base CX0 9 fa fd ["script"] (spLaw (K w.params))) :
    PySem.W.WalkO q loose XP YP l.row.toRowW d [] (fun f vs => PySem.call f vs) :=
  L2.walk_of (n := 63) (k := 9) (x := "script") (CX := fun _ => CX0) (sp := fun w => spLaw (K w.params)) hn (by decide) hdf ⟨rfl, by decide, by decide⟩ hY F (fun _ _ a ns hl _ hS => ⟨a, ns, rfl, hS, hl, fun _ => rfl⟩) fun _ _ _ _ _ z => z
end My
open PySem PySem.W PyProof.Rows
set_option maxRecDepth 100000 in
set_option maxHeartbeats 0 in
theorem PySem.Challenge.cw_unbrokenrows_k01_share_totals_and_texts_holds : PySem.Challenge.rw_unbrokenrows_k01_share_totals_and_texts.Holds := by
  w_on; o_law; k_head; (case hw => w_witness2)
  k_fill
  refine My.walk (l := PySem.Challenge.rw_unbrokenrows_k01_share_totals_and_texts) rfl rfl (fun w h Y => PySem.W.kIn_of Y) ?F
  case F =>
    intro w mg fa h KX G hmg
    refine' My.all_mk KX G hmg ?xmg_Share ?xmg_RowsError ?xmg_Unknown ?xmg_Impossible ?xmg_BadShare ?xmg_BadNumber ?sf_Share_total ?sg_Share_total ?am_Share_init ?am_Share_add ?am_Share_bool ?am_Share_str ?xmg_law_cell ?xmg_law_pool ?xmg_law_part ?xmg_law_common ?xmg_law_added ?xmg_law_text ?xmg_law_is ?xmg_law_refused ?xmg_law_parts ?xmg_law ?if_Share_init ?if_Share_add ?if_Share_bool ?if_Share_str ?l_Share_init ?l_Share_total ?l_Share_add ?l_Share_bool ?l_Share_str ?l_law_cell ?l_law_pool ?l_law_part ?l_law_common ?l_law_added ?l_law_text ?l_law_is ?l_law_refused ?l_law_parts ?l_law ?c_Share_init ?k_Share_init ?lt_Share_init ?c_Share_total ?k_Share_total ?c_Share_add ?k_Share_add ?c_Share_bool ?k_Share_bool ?c_Share_str ?k_Share_str ?c_law_cell ?k_law_cell ?c_law_pool ?k_law_pool ?c_law_part ?k_law_part ?c_law_common ?k_law_common ?c_law_added ?k_law_added ?c_law_text ?k_law_text ?c_law_is ?k_law_is ?c_law_refused ?k_law_refused ?c_law_parts ?k_law_parts ?c_law ?k_law ?pgcl_Share ?hdcl_Share ?pocl_Share ?sacl_Share ?xsf_Share ?kmk_Share ?kkmk_Share ?xc1_Share ?xc3_Share ?xn_Share_num ?xn_Share_den ?xc2 ?xc4 ?xtp_RowsError ?xic_RowsError ?xtp_Unknown ?xic_Unknown ?xtp_Impossible ?xic_Impossible ?xtp_BadShare ?xic_BadShare ?xtp_BadNumber ?xic_BadNumber ?xx_BadShare ?xk_BadShare ?xbp_BadShare ?xsv_BadShare ?xss_BadShare ?xsu_BadShare_RowsError ?xsu_BadShare_Unknown ?xsu_BadShare_Impossible ?xsu_BadShare_BadNumber ?xe1_BadShare ?xe2_BadShare ?xe3_BadShare ?xe4_BadShare ?xe5_BadShare ?r1cr_Share ?r2cr_Share ?xn_abs ?xn_int ?xn_bool ?xn_isinstance ?xn_range ?xn_len ?xn_str ?xn_tuple ?xn_ValueError ?xmg_gcd ?xsx_Share ?xds_Share_add
    (case xmg_Share => k_is)
    (case xmg_RowsError => k_is)
    (case xmg_Unknown => k_is)
    (case xmg_Impossible => k_is)
    (case xmg_BadShare => k_is)
    (case xmg_BadNumber => k_is)
    (case sf_Share_total => k_is)
    (case sg_Share_total => k_is)
    (case am_Share_init => k_is)
    (case am_Share_add => k_is)
    (case am_Share_bool => k_is)
    (case am_Share_str => k_is)
    (case xmg_law_cell => k_is)
    (case xmg_law_pool => k_is)
    (case xmg_law_part => k_is)
    (case xmg_law_common => k_is)
    (case xmg_law_added => k_is)
    (case xmg_law_text => k_is)
    (case xmg_law_is => k_is)
    (case xmg_law_refused => k_is)
    (case xmg_law_parts => k_is)
    (case xmg_law => k_is)
    (case if_Share_init => k_is)
    (case if_Share_add => k_is)
    (case if_Share_bool => k_is)
    (case if_Share_str => k_is)
    (case l_Share_init => k_is)
    (case l_Share_total => k_is)
    (case l_Share_add => k_is)
    (case l_Share_bool => k_is)
    (case l_Share_str => k_is)
    (case l_law_cell => k_is)
    (case l_law_pool => k_is)
    (case l_law_part => k_is)
    (case l_law_common => k_is)
    (case l_law_added => k_is)
    (case l_law_text => k_is)
    (case l_law_is => k_is)
    (case l_law_refused => k_is)
    (case l_law_parts => k_is)
    (case l_law => k_is)
    (case c_Share_init => k_is)
    (case k_Share_init => k_is)
    (case lt_Share_init => k_is)
    (case c_Share_total => k_is)
    (case k_Share_total => k_is)
    (case c_Share_add => k_is)
    (case k_Share_add => k_is)
    (case c_Share_bool => k_is)
    (case k_Share_bool => k_is)
    (case c_Share_str => k_is)
    (case k_Share_str => k_is)
    (case c_law_cell => k_is)
    (case k_law_cell => k_is)
    (case c_law_pool => k_is)
    (case k_law_pool => k_is)
    (case c_law_part => k_is)
    (case k_law_part => k_is)
    (case c_law_common => k_is)
    (case k_law_common => k_is)
    (case c_law_added => k_is)
    (case k_law_added => k_is)
    (case c_law_text => k_is)
    (case k_law_text => k_is)
    (case c_law_is => k_is)
    (case k_law_is => k_is)
    (case c_law_refused => k_is)
    (case k_law_refused => k_is)
    (case c_law_parts => k_is)
    (case k_law_parts => k_is)
    (case c_law => k_is)
    (case k_law => k_is)
    (case pgcl_Share => k_is)
    (case hdcl_Share => k_is)
    (case pocl_Share => k_is)
    (case sacl_Share => k_is)
    (case xsf_Share => k_is)
    (case kmk_Share => k_is)
    (case kkmk_Share => k_is)
    (case xc1_Share => k_is)
    (case xc3_Share => k_is)
    (case xn_Share_num => k_is)
    (case xn_Share_den => k_is)
    (case xc2 => k_is)
    (case xc4 => k_is)
    (case xtp_RowsError => k_is)
    (case xic_RowsError => k_is)
    (case xtp_Unknown => k_is)
    (case xic_Unknown => k_is)
    (case xtp_Impossible => k_is)
    (case xic_Impossible => k_is)
    (case xtp_BadShare => k_is)
    (case xic_BadShare => k_is)
    (case xtp_BadNumber => k_is)
    (case xic_BadNumber => k_is)
    (case xx_BadShare => k_exc)
    (case xk_BadShare => k_is)
    (case xbp_BadShare => k_is)
    (case xsv_BadShare => k_is)
    (case xss_BadShare => k_is)
    (case xsu_BadShare_RowsError => k_is)
    (case xsu_BadShare_Unknown => k_is)
    (case xsu_BadShare_Impossible => k_is)
    (case xsu_BadShare_BadNumber => k_is)
    (case xe1_BadShare => k_is)
    (case xe2_BadShare => k_is)
    (case xe3_BadShare => k_is)
    (case xe4_BadShare => k_is)
    (case xe5_BadShare => k_is)
    (case r1cr_Share => k_is)
    (case r2cr_Share => k_is)
    (case xn_abs => k_is)
    (case xn_int => k_is)
    (case xn_bool => k_is)
    (case xn_isinstance => k_is)
    (case xn_range => k_is)
    (case xn_len => k_is)
    (case xn_str => k_is)
    (case xn_tuple => k_is)
    (case xn_ValueError => k_is)
    (case xmg_gcd => k_is)
    (case xsx_Share => k_is)
    (case xds_Share_add => k_is)
#print axioms PySem.Challenge.cw_unbrokenrows_k01_share_totals_and_texts_holds
