import PyProof.Rows.All
import Wide.All
import OpenK.AllK
import Wide.FinOn
import HandS.Base
import HandS.Call
import HandS.List
import HandS.OwnEq
import HandS.Ends
import HandS.ClsMeth
import HandS.ExcOwn
import HandS.ExcIs
import HandS.TryOnly
import KE.KExcSuper
import HandS.ExcInit
import HandS.ExcField
import HandS.Words
import HandS.SortKw
import HandS.IterNext
import KE.DataMinMax
import KE.KExcIs
import KE.KExcLine
import HandS.OwnIter
import HandS.Walk
import KE.GoesMore
import HandS.SetFor
import HandS.ForMost
import HandS.Wide
import HandS.IsInst
import HandS.Defaults
import HandS.FStr
import HandS.Style
import HandS.StrMore
import HandS.Replace
import HandS.Text
import HandS.Codes
import HandS.WordsExc
import PyProof.StrBlock2
import PyProof.StrLawsChain
import PyProof.Rows.StrCut
import HandS.Star
import PySem.Challenge.RW_unbrokenrows_k04_table_texts
set_option Elab.async false
set_option linter.all false
set_option maxRecDepth 100000
namespace My
open PySem PySem.Spec PyProof.Rows L2
section
variable {X : Cx} {CX : CXT} {n : Nat} {f C : Addr} {fd : FuncData} {ps : List Str} {sp : Sp} {E : XK}
/-- a promise, called anywhere in the running body -/
theorem call_at (G0 : FnOk X.prog X.w X.K X.mg X.base CX n f fd ps sp) (hb : Binds X.K fd ps []) (hx : Passes CX X E) {A : Around} (hr : Room n A) (hA : A.frames = X.A.frames)
    {pins : List (Addr × Obj)} {s : Shared} {σ : L2.St} {H : Hp} (I : Inv X pins σ H s) {vs : List V} {us : List Value} (r : Vals vs us) {Q : VK} (h : sp vs H Q E) :
    wpAny (model X.prog X.w) A (call (.ref f) us) (EP X pins σ Q) X.xe s := by
  have e0 : Env0 X.prog X.w X.K X.mg X.base A X.stack s H := by
    have e := I.env0
    exact ⟨by rw [hA]; exact e.frames, e.mod, e.bs, e.bsz, e.funs, e.frf, e.hok, e.bare⟩
  have hl := G0.len _ _ _ _ h
  refine wpAny_call (codeAny_mono (G0.run A X.stack s H ⟨us, []⟩ us vs Q E hr e0 (by
    have := hb s us I.kIn (by rw [List.append_nil, ← r.length]; exact hl)
    simpa using this) r h) fun r s' hq => ?_)
  cases r with
  | error e => exact hx pins σ H s e s' I hq
  | ok fl =>
    cases fl with
    | ret w => exact I.after hq
    | next => exact False.elim hq
    | brk => exact False.elim hq
    | cont => exact False.elim hq
theorem relV_noNI {v : V} {u : Value} (r : RelV v u) : u ≠ .notImplemented := by
  intro e
  subst e
  cases v <;> first | (cases r; done) | (obtain ⟨_, z⟩ := r; cases z)
theorem cmpBack_of {pins : List (Addr × Obj)} {σ : L2.St} {Q : VK} {v : Value} {s : Shared} (h : EP X pins σ Q v s) : PySem.W.CmpBack (EP X pins σ Q) v s := by
  obtain ⟨x, H', I', r, q⟩ := id h
  cases v <;> first | exact h | exact absurd rfl (relV_noNI r)
/-- x op y, both instances of the class at C, by its own method -/
def rOwn2 (C : Addr) (sp : Sp) (E : XK) : R2 := fun x y H Q => ∃ a b dx dy fs gs, x = .ref a ∧ y = .ref b ∧ H a = some (.ins C dx fs) ∧ H b = some (.ins C dy gs) ∧ sp [.ref a, .ref b] H Q E
theorem op_own2 {op : Operator} (G0 : FnOk X.prog X.w X.K X.mg X.base CX n f fd ps sp) (hb : Binds X.K fd ps []) (hx : Passes CX X E) (hr : Room n X.A)
    (hs : PySem.W.findIn X.K (.ref C) (PySem.dunder op.info.2) = some (some (.ref f))) (hf : PySem.W.isFn X.K (.ref f) = true) (hc : PySem.W.selfFirst X.K C = true) : OpR X (binaryOp op) (rOwn2 C sp E) := by
  intro pins s σ H x y v u Q I rx ry h
  obtain ⟨a, b, dx, dy, fs, gs, rfl, rfl, ha, hb', q⟩ := h
  cases rx
  cases ry
  obtain ⟨mA, J, _⟩ := ins_get I.hok ha
  obtain ⟨mB, J', _⟩ := ins_get I.hok hb'
  obtain ⟨od, J, _⟩ := J.look
  obtain ⟨od', J', _⟩ := J'.look
  obtain ⟨m, hF⟩ := I.fr
  refine PySem.W.binop_K hF I.ok.mod.kin J J'.type hc hs hf ?_
  exact wpAny_mono (call_at G0 hb hx hr rfl I (vs := [.ref a, .ref b]) (.cons rfl (.cons rfl .nil)) q) (fun v s' z => cmpBack_of z) fun _ _ z => z
/-- x op k, x such an instance, k a whole number -/
def rOwnI (C : Addr) (sp : Sp) (E : XK) : R2 := fun x y H Q => ∃ a dx fs k, x = .ref a ∧ y = .int k ∧ H a = some (.ins C dx fs) ∧ sp [.ref a, .int k] H Q E
theorem op_ownI {op : Operator} {fo ro rc : Option Value} (G0 : FnOk X.prog X.w X.K X.mg X.base CX n f fd ps sp) (hb : Binds X.K fd ps []) (hx : Passes CX X E) (hr : Room n X.A)
    (hs : PySem.W.findIn X.K (.ref C) (PySem.dunder op.info.2) = some (some (.ref f))) (hf : PySem.W.isFn X.K (.ref f) = true) (hc : PySem.W.selfFirst X.K C = true)
    (hrr : PySem.W.findIn X.K (.ref C) (dunderR op.info.2) = some rc) (hp : rc = none ∨ ∃ g : Addr, rc = some (.ref g))
    (h1 : PySem.W.findIn X.K (.type "int") (PySem.dunder op.info.2) = some fo) (h2 : PySem.W.findIn X.K (.type "int") (dunderR op.info.2) = some ro) (hsub : PySem.W.subIn X.K (.type "int") (.ref C) = some false) :
    OpR X (binaryOp op) (rOwnI C sp E) := by
  intro pins s σ H x y v u Q I rx ry h
  obtain ⟨a, dx, fs, k, rfl, rfl, ha, q⟩ := h
  cases rx
  obtain ⟨t, rfl⟩ := ry
  obtain ⟨mA, J, _⟩ := ins_get I.hok ha
  obtain ⟨od, J, _⟩ := J.look
  obtain ⟨m, hF⟩ := I.fr
  refine PySem.W.ksp_binT (T := "int") hF I.ok.mod.kin J rfl hc hs hf hrr hp h1 h2 hsub ?_
  exact wpAny_mono (call_at G0 hb hx hr rfl I (vs := [.ref a, .int k]) (.cons rfl (.cons ⟨_, rfl⟩ .nil)) q) (fun v s' z => cmpBack_of z) fun _ _ z => z
/-- one-place operators of such an instance -/
def rOwn1 (C : Addr) (sp : Sp) (E : XK) : V → Hp → VK → Prop := fun x H Q => ∃ a dx fs, x = .ref a ∧ H a = some (.ins C dx fs) ∧ sp [.ref a] H Q E
theorem un_own (G0 : FnOk X.prog X.w X.K X.mg X.base CX n f fd ps sp) (hb : Binds X.K fd ps []) (hx : Passes CX X E) (hr : Room n X.A)
    (hs : PySem.W.findIn X.K (.ref C) "__neg__" = some (some (.ref f))) (hf : PySem.W.isFn X.K (.ref f) = true) : UnR X (unaryOp .USub) (rOwn1 C sp E) := by
  intro pins s σ H x v Q I rx h
  obtain ⟨a, dx, fs, rfl, ha, q⟩ := h
  cases rx
  obtain ⟨mA, J, _⟩ := ins_get I.hok ha
  obtain ⟨od, J, _⟩ := J.look
  obtain ⟨m, hF⟩ := I.fr
  exact PySem.W.ksp_neg hF I.ok.mod.kin J hs hf (call_at G0 hb hx hr rfl I (vs := [.ref a]) (.cons rfl .nil) q)
/-- abs(x), bool(x) of such an instance -/
theorem call_absOwn (G0 : FnOk X.prog X.w X.K X.mg X.base CX n f fd ps sp) (hb : Binds X.K fd ps []) (hx : Passes CX X E) (hr : Room (n + 1) X.A)
    (hs : PySem.W.findIn X.K (.ref C) "__abs__" = some (some (.ref f))) (hf : PySem.W.isFn X.K (.ref f) = true) :
    CallR X (.builtin "abs") (fun xs H Q => ∃ a dx fs, xs = [V.ref a] ∧ H a = some (.ins C dx fs) ∧ sp [.ref a] H Q E) := by
  intro pins s σ H xs us Q I r h
  obtain ⟨a, dx, fs, rfl, ha, q⟩ := h
  obtain ⟨u, rfl, r1⟩ := vals1 r
  cases r1
  obtain ⟨mA, J, _⟩ := ins_get I.hok ha
  obtain ⟨od, J, _⟩ := J.look
  refine PySem.Calls.call_function_entry kind_abs plain_abs entry_abs (args_abs _) ?_
  unfold Builtin.«abs»
  refine wpAny_bind (m := oneArg "abs" _) (wpAny_pure ?_)
  refine wpAny_bind (m := callSpecial? (.ref a) (Str.ofString "__abs__")) (PySem.W.special_fn I.kIn J hs (beq_iff_eq.mp hf) ?_)
  refine wpAny_mono (call_at G0 hb hx (A := X.A.in1) hr.in1 rfl I (vs := [.ref a]) (.cons rfl .nil) q) (fun v s' z => ?_) fun _ _ z => z
  exact wpAny_pure ⟨_, rfl, z⟩
theorem meets_bool_own (prog : Program) (w : World) (l : Addr) : MeetsIn prog w (Builtin.«bool.__new__» ⟨[.type "bool", .ref l], []⟩)
    (fun A R s => wpAny (model prog w) A.in1 (truthy (.ref l)) (fun b s' => R (.ok (.ret (.bool b))) s') (fun e s' => R (.error e) s') s) := by
  intro A R s hs
  have f1 := F.conv_sub_bool
  unfold Builtin.«bool.__new__»
  dsimp only
  repeat (any_goals (first | assumption | (with_reducible refine wpAny_mono hs (fun b s' z => ?_) (fun _ _ z => z)) | wp_step))
  all_goals first | exact z | skip
theorem call_boolOwn (G0 : FnOk X.prog X.w X.K X.mg X.base CX n f fd ps sp) (hb : Binds X.K fd ps []) (hx : Passes CX X E) (hr : Room (n + 2) X.A)
    (hs : PySem.W.findIn X.K (.ref C) "__bool__" = some (some (.ref f))) (hf : PySem.W.isFn X.K (.ref f) = true) :
    CallR X (.type "bool") (fun xs H Q => ∃ a dx fs, xs = [V.ref a] ∧ H a = some (.ins C dx fs) ∧ sp [.ref a] H (fun v H' => ∃ k, v = .bl k ∧ Q v H') E) := by
  intro pins s σ H xs us Q I r h
  obtain ⟨a, dx, fs, rfl, ha, q⟩ := h
  obtain ⟨u, rfl, r1⟩ := vals1 r
  cases r1
  obtain ⟨mA, J, _⟩ := ins_get I.hok ha
  obtain ⟨od, J, _⟩ := J.look
  obtain ⟨m, hF⟩ := I.fr
  refine callType_newIn F.called_bool F.newNe_bool (F.typeCall_bool_1 _) (F.newCall_bool_1 _) (fun obj => F.args_object_init_2 obj _) F.entry_bool_new (meets_bool_own X.prog X.w a) ?_
  refine PySem.W.truthy_K hF I.ok.mod.kin J hs hf ?_
  refine wpAny_mono (call_at G0 hb hx (A := X.A.in1.in1) hr.in1.in1 rfl I (vs := [.ref a]) (.cons rfl .nil) q) (fun v s' z => ?_) fun _ _ z => z
  obtain ⟨x, H', I', r, k, rfl, q'⟩ := z
  cases r
  exact ⟨PySem.typeIs_bool _ _, .bl k, H', I', rfl, q'⟩
/-- == of two such instances -/
def rOwnEq (C : Addr) (sp : Sp) (E : XK) : R2 := fun x y H Q => ∃ a b dx dy fs gs, x = .ref a ∧ y = .ref b ∧ H a = some (.ins C dx fs) ∧ H b = some (.ins C dy gs) ∧ sp [.ref a, .ref b] H Q E
theorem op_eqOwn (G0 : FnOk X.prog X.w X.K X.mg X.base CX n f fd ps sp) (hb : Binds X.K fd ps []) (hx : Passes CX X E) (hr : Room n X.A)
    (hs : PySem.W.findIn X.K (.ref C) "__eq__" = some (some (.ref f))) (hf : PySem.W.isFn X.K (.ref f) = true) : OpR X (compareOp .Eq) (rOwnEq C sp E) := by
  intro pins s σ H x y v u Q I rx ry h
  obtain ⟨a, b, dx, dy, fs, gs, rfl, rfl, ha, hb', q⟩ := h
  cases rx
  cases ry
  obtain ⟨mA, J, _⟩ := ins_get I.hok ha
  obtain ⟨mB, J', _⟩ := ins_get I.hok hb'
  obtain ⟨od, J, _⟩ := J.look
  obtain ⟨od', J', _⟩ := J'.look
  obtain ⟨m, hF⟩ := I.fr
  show wpAny (model X.prog X.w) X.A (richCompare .Eq (.ref a) (.ref b)) (EP X pins σ Q) X.xe s
  refine PySem.W.cmp_K (op := .Eq) (tb := .ref C) hr.units0 hF I.ok.mod.kin J J'.type (by simp [PySem.W.notFirst]) hs hf ?_
  exact wpAny_mono (call_at G0 hb hx hr rfl I (vs := [.ref a, .ref b]) (.cons rfl (.cons rfl .nil)) q) (fun v s' z => cmpBack_of z) fun _ _ z => z
end
end My
set_option maxRecDepth 100000
namespace My
open PySem PySem.Spec PyProof.Rows L2
open ClX (CRead)
section
variable {X : Cx} {CX : CXT} {n k : Nat} {f C : Addr} {fd : FuncData} {ps : List Str} {sp : Sp} {E : XK}
/-- str(x) of an instance with its own __str__ -/
theorem call_strOwn (G0 : FnOk X.prog X.w X.K X.mg X.base CX n f fd ps sp) (hb : Binds X.K fd ps []) (hx : Passes CX X E) (hr : Room (n + 2) X.A)
    (hs : PySem.W.findIn X.K (.ref C) "__str__" = some (some (.ref f))) (hf : PySem.W.isFn X.K (.ref f) = true) :
    CallR X (.type "str") (fun xs H Q => ∃ a dx fs, xs = [V.ref a] ∧ H a = some (.ins C dx fs) ∧ sp [.ref a] H (fun v H' => ∃ z, v = .str z ∧ Q v H') E) := by
  intro pins s σ H xs us Q I r h
  obtain ⟨a, dx, fs, rfl, ha, q⟩ := h
  obtain ⟨u, rfl, r1⟩ := vals1 r
  cases r1
  obtain ⟨mA, J, _⟩ := ins_get I.hok ha
  obtain ⟨od, J, _⟩ := J.look
  refine PySem.W.kso_call (hr.in1.in1.units0) I.kIn J hs hf ?_
  refine wpAny_mono (call_at G0 hb hx (A := X.A.in1.in1) hr.in1.in1 rfl I (vs := [.ref a]) (.cons rfl .nil) q) (fun v s' z => ?_) fun _ _ z => z
  obtain ⟨x, H', I', r, y, rfl, q'⟩ := z
  obtain ⟨t, rfl⟩ := r
  exact ⟨.str y, H', I', ⟨_, rfl⟩, q'⟩
/-- C.m is a staticmethod: its record at p, its def at g -/
structure SMet (K : PySem.W.Frag) (C : Addr) (mc : Value) (m : Str) (p g : Addr) : Prop where
  at_ : PySem.W.findCls K (.ref C) mc m = some (.get (.builtin "staticmethod.__get__") (.ref p) .none (.ref C))
  rc : ∃ rest, PySem.W.recIn K p "staticmethod" = some (.ref g :: rest)
  kp : PySem.W.keepIn K (.ref g) = true
theorem getmethsm_ok {pins : List (Addr × Obj)} {σ : L2.St} {H : Hp} {s : Shared} {p g : Addr} {mc : Value} {m : Str} {A : Around} {E : Value → Shared → Prop} {pl : Sem Bool} {Q : Value × List Value → Shared → Prop} (I : Inv X pins σ H s) (r : CRead X.K C mc) (k : SMet X.K C mc m p g)
    (h : ∀ s', Inv X pins σ H s' → Q (.ref g, []) s') : wpAny (model X.prog X.w) A (getMethod (.ref C) m pl) Q E s := by
  refine PySem.W.method_cls I.kIn r.ga ?_
  obtain ⟨rest, hp⟩ := k.rc
  refine PySem.W.cls_bind I.kIn r.rd k.at_ ?_
  refine wpAny_call (PySem.W.sm_get (s := { s with toks := s.toks + 1 }) I.kIn hp (PySem.W.handed_on rfl ?_))
  exact h _ (I.tok _)
/-- C.m(e, ..), m a staticmethod of the class at C -/
def tSMeth (C : Addr) (sp : Sp) (dvs : List V) (E : XK) (ta : TE) (t : TA) : TE := fun σ H Q => ta σ H fun x H1 => x = .ref C ∧ t σ H1 fun vs H2 => sp (vs ++ dvs) H2 Q E
theorem pe_smeth {o e : Expr} {es : List Expr} {p g : Addr} {mc : Value} {m : Str} {pos apos : Pos} {ta : TE} {t : TA} {pl : Sem Bool} {ds : List Value} {dvs : List V} (he : PE X o ta) (r : CRead X.K C mc) (c : SMet X.K C mc m p g)
    (G0 : FnOk X.prog X.w X.K X.mg X.base CX k g fd ps sp) (hr : Room k X.A) (hb : Binds X.K fd ps ds) (hd : Vals dvs ds) (hx : Passes CX X E) (ha : PA X (e :: es) t)
    (hst : starEach (e :: es) X.env = (false, eval e X.env) :: starEach es X.env := by rfl) (hpl : (backTo pos (starEach es X.env)).any (·.1) = false := by rfl)
    (ht : eval (.Call (.Attribute o m apos) (e :: es) [] pos) X.env = (do
      let ov ← eval o X.env
      standAt apos.atName
      let (f, first) ← holding [ov] (getMethod ov m pl)
      callWith pos f first (backTo pos (starEach (e :: es) X.env)) (backToKw pos (keywordEach [] X.env))) := by rfl) :
    PE X (.Call (.Attribute o m apos) (e :: es) [] pos) (tSMeth C sp dvs E ta t) := by
  refine ⟨fun pins s σ H Q I h => ?_⟩
  refine PySem.W.methodCall_KW (pl := pl) (thn (he.run pins s σ H _ I h) fun u s1 ⟨x, H1, I1, rx, ex, q⟩ => ?_) ht
  subst ex
  obtain rfl : u = Value.ref C := rx
  refine getmethsm_ok I1 r c fun s2 I2 => ?_
  refine PySem.W.callWith_K (h₀ := X.base) I2.ok.mod.kin c.kp (thn (ha.run pos pins s2 σ H1 _ I2 q) fun us s3 ⟨vs, H2, I3, r3, q3⟩ => ⟨I3.kIn, ?_⟩) hst hpl
  exact run_fn G0 hr hb hd hx I3 r3 q3
/-- C(e, ..) where what its __init__ raises is wished for -/
def tMakeS (C : Addr) (sp : Sp) (E : L2.St → XK) (t : TA) : TE := fun σ H Q => t σ H fun vs H1 => ∀ x dx, H1 x = none → H1 dx = none → dx ≠ x →
  sp (.ref x :: vs) (upd (upd H1 dx (.own x)) x (.ins C dx [])) (fun v H2 => v = .non ∧ Q (.ref x) H2) (E σ)
theorem run_makeS {E : L2.St → XK} {pins : List (Addr × Obj)} {σ : L2.St} {H : Hp} {s : Shared} {Q : VK} {us : List Value} {vs : List V} (M : Mk X.K C f) (G0 : FnOk X.prog X.w X.K X.mg X.base CX k f fd ps sp) (hr : Room (k + 1) X.A) (hb : Binds X.K fd ps [])
    (hx : PassesAt CX X σ (E σ)) (I : Inv X pins σ H s) (r : Vals vs us)
    (h : ∀ x dx, H x = none → H dx = none → dx ≠ x → sp (.ref x :: vs) (upd (upd H dx (.own x)) x (.ins C dx [])) (fun v H2 => v = .non ∧ Q (.ref x) H2) (E σ)) :
    wpAny (model X.prog X.w) X.A (call (.ref C) us) (EP X pins σ Q) X.xe s := by
  have hq := h (s.heap.objs.size + 1) s.heap.objs.size (I.hok.fresh (Nat.le_succ _)) (I.hok.fresh (Nat.le_refl _)) (Nat.ne_of_lt (Nat.lt_succ_self _))
  have I2 := Inv.made (C := C) I
  have r2 : Vals (V.ref (s.heap.objs.size + 1) :: vs) (Value.ref (s.heap.objs.size + 1) :: us) := .cons rfl r
  have hl : (Value.ref (s.heap.objs.size + 1) :: us).length = ps.length := by
    have e := r2.length
    rw [G0.len _ _ _ _ hq] at e
    exact e.symm
  have b := hb _ (Value.ref (s.heap.objs.size + 1) :: us) I2.kIn (by rw [List.append_nil]; exact hl)
  rw [List.append_nil] at b
  refine wpAny_call (make_map (f := f) I.kIn M.makes M.init (beq_iff_eq.mp M.fn) (codeAny_mono (G0.run _ X.stack _ _ ⟨Value.ref (s.heap.objs.size + 1) :: us, []⟩ (Value.ref (s.heap.objs.size + 1) :: us) _ _ (E σ) (hr.make C us [])
    (I2.env0.make C us []) b r2 hq) fun r s' hq' => ?_))
  cases r with
  | error e => exact hx pins _ _ e s' I2 hq'
  | ok fl =>
    cases fl with
    | ret u =>
      obtain ⟨v, H', I3, rv, ev, q3⟩ := I2.after hq'
      subst ev
      exact ⟨rv, ⟨V.ref (s.heap.objs.size + 1), H', I3, rfl, q3⟩⟩
    | next => exact False.elim hq'
    | brk => exact False.elim hq'
    | cont => exact False.elim hq'
theorem pe_makeS {E : L2.St → XK} {x : Str} {p pos : Pos} {e : Expr} {es : List Expr} {t : TA} (M : Mk X.K C f) (G0 : FnOk X.prog X.w X.K X.mg X.base CX k f fd ps sp) (hr : Room (k + 1) X.A) (hg : Gl X x) (hm : X.mg x = some (.ref C)) (hb : Binds X.K fd ps []) (hx : ∀ σ, PassesAt CX X σ (E σ))
    (ha : PA X (e :: es) t) (hdb : (x == ("__debug__" : Str)) = false := by decide) (he : starEach (e :: es) X.env = (false, eval e X.env) :: starEach es X.env := by rfl) (hpl : (backTo pos (starEach es X.env)).any (·.1) = false := by rfl) :
    PE X (.Call (.Name x p) (e :: es) [] pos) (tMakeS C sp E t) := by
  refine ⟨fun pins s σ H Q I h => ?_⟩
  refine wpAny_Call_Name_kw (ld_glob I hg hm ?_ hdb)
  refine PySem.W.callWith_K (h₀ := X.base) I.ok.mod.kin M.kp (thn (ha.run pos pins s σ H _ I h) fun us s1 ⟨vs, H1, I1, r, q⟩ => ⟨I1.kIn, ?_⟩) he hpl
  exact run_makeS M G0 hr hb (hx σ) I1 r q
end
/-- isinstance(e, c) in an except suite of any error -/
theorem call_isEx {X : Cx} {a : Addr} {oe : Obj} {cls : Value} {d : Option Addr} {pn : List (Addr × Obj)} (hz : Zc cls d oe) (hf : ∃ vs, oe.data = .fields vs) :
    CallR (X.suite a ((a, oe) :: pn)) (.builtin "isinstance") (fun xs H Q => ∃ D, cls = .ref D ∧ d = none ∧ ExcC X.K D ∧ rIsE X.K D a xs H Q) := by
  intro pins s σ H xs us Q I r h
  obtain ⟨D, rfl, rfl, c, q⟩ := h
  exact call_isE c hz hf pins s σ H xs us Q I r q
/-- an own class against an own class, against a built-in one -/
theorem kit_own {K : PySem.W.Frag} {C D : Addr} {b : Bool} (hi : PySem.W.isClsIn K D = true) (ht : PySem.W.typeIn K (.ref D) = some (.type "type")) (hs : PySem.W.subIn K (.ref C) (.ref D) = some b) (hne : C ≠ D ∨ b = true) : PySem.W.kitOne K (.ref C) (.ref D) = some b := by
  unfold PySem.W.kitOne
  by_cases e : C = D
  · rcases hne with h | h
    · exact absurd e h
    · rw [if_pos (by rw [e]; simp), h]
  · rw [if_neg (by simp [e])]
    show (if ((PySem.W.clsIn K D).isSome && PySem.W.typeIn K (.ref D) == some (.type "type")) = true then _ else _) = _
    rw [if_pos (by
      rw [ht]
      have : (PySem.W.clsIn K D).isSome = true := hi
      rw [this]; simp)]
    exact hs
theorem kit_ownT {K : PySem.W.Frag} {C : Addr} {T : String} {b : Bool} (hm : PySem.W.kitMeta T = true) (hs : PySem.W.subIn K (.ref C) (.type T) = some b) : PySem.W.kitOne K (.ref C) (.type T) = some b := by
  unfold PySem.W.kitOne PySem.W.kitCls
  rw [if_neg (by simp)]
  show (if PySem.W.kitMeta T = true then _ else _) = _
  rw [if_pos hm]
  exact hs
end My
set_option maxRecDepth 100000
set_option maxHeartbeats 1000000
/-! own exceptions whose __init__ says super().__init__(text) and then stores its fields -/
namespace My
open PySem PySem.Spec PyProof.Rows L2
/-- the names of such a def: its parameters are local, nothing is a cell, __class__ alone is free -/
structure SupScope (N ps : List Str) (sc : Scope) : Prop where
  kind : sc.kind = .function
  co : sc.isCoroutine = false
  gen : sc.isGenerator = false
  nd : ps.Nodup
  eqN : N = ps
  par : ∀ x ∈ ps, sc.names.lookup x = some .local
  nocell : ∀ y ∈ sc.names, y.2 ≠ .cell
  free : ∀ y ∈ sc.names, y.2 = .free → y.1 = "__class__"
  ks : sc.names.lookup ("super" : Str) = some .globalImplicit
  kc : sc.names.lookup ("__class__" : Str) = some .free
/-- the context of its body -/
def cxSup (CX : CXT) (P : Program) (w : World) (K : PySem.W.Frag) (mg : Str → Option Value) (base : Heap) (N : List Str) (qual : Str) (scope : Scope) (f : Addr) (cd : Value) (cc : Addr) (A : Around) (outer : List Env) (s : Shared) (H : Hp) (E : XK) : Cx where
  prog := P
  w := w
  K := K
  mg := mg
  base := base
  A := A.deeper (PySem.W.ksEnv qual scope s.heap.objs.size f cd cc)
  N := N
  s_0 := s
  H_0 := H
  env := PySem.W.ksEnv qual scope s.heap.objs.size f cd cc
  outer := outer
  stack := PySem.W.ksEnv qual scope s.heap.objs.size f cd cc :: outer
  ex := []
  calm := true
  fn := fun _ => false
  pn := []
  xe := fun e s' => wpAny (model P w) (A.deeper (PySem.W.ksEnv qual scope s.heap.objs.size f cd cc)) (leaving (PySem.W.ksEnv qual scope s.heap.objs.size f cd cc) e) (fun _ s'' => CX outer H s E e s'') (fun e' s'' => CX outer H s E e' s'') s'
theorem lookup_of_mem {l : List (Str × Value)} {y : Str} {u : Value} (nd : (l.map (·.1)).Nodup) (h : (y, u) ∈ l) : l.lookup y = some u := by
  induction l with
  | nil => cases h
  | cons p r ih =>
    obtain ⟨z, v⟩ := p
    rw [List.map_cons, List.nodup_cons] at nd
    rcases List.mem_cons.mp h with e | e
    · cases e; simp [List.lookup]
    · have hne : y ≠ z := fun q => nd.1 (by rw [← q]; exact List.mem_map.mpr ⟨_, e, rfl⟩)
      have : (y == z) = false := by simpa using hne
      simp only [List.lookup, this]
      exact ih nd.2 e
theorem map_fst_zip_sub : ∀ (ps : List Str) (us : List Value), ((ps.zip us).map (·.1)).Sublist ps
  | [], _ => by simp
  | _ :: _, [] => by simp
  | p :: ps, u :: us => by simpa using map_fst_zip_sub ps us
theorem nd_rev {l : List Str} (h : l.Nodup) : l.reverse.Nodup := by
  induction l with
  | nil => simp
  | cons a t ih =>
    rw [List.nodup_cons] at h
    rw [List.reverse_cons, List.nodup_append]
    exact ⟨ih h.2, by simp, fun x hx y hy e => h.1 (by simp at hy; rw [← hy, ← e]; simpa using hx)⟩
theorem zip_lookup {ps : List Str} {us : List Value} {i : Nat} {y : Str} {u : Value} (nd : ps.Nodup) (h1 : ps[i]? = some y) (h2 : us[i]? = some u) : (ps.zip us).reverse.lookup y = some u := by
  refine lookup_of_mem ?_ ?_
  · rw [List.map_reverse]
    have : ((ps.zip us).map (·.1)).Nodup := by
      exact nd.sublist (map_fst_zip_sub ps us)
    exact nd_rev this
  · rw [List.mem_reverse]
    have : (ps.zip us)[i]? = some (y, u) := by rw [List.getElem?_zip_eq_some]; exact ⟨h1, h2⟩
    exact List.mem_of_getElem? this
section
variable {CX : CXT} {P : Program} {w : World} {K : PySem.W.Frag} {mg : Str → Option Value} {base : Heap} {N ps : List Str} {qual : Str} {scope : Scope} {f cc : Addr} {cd : Value} {A : Around} {outer : List Env} {s : Shared} {H : Hp} {E : XK}
theorem env_cells {x : Str} {c : Addr} {L : Addr} (h : (PySem.W.ksEnv qual scope L f cd cc).cells.lookup x = some c) : x = "__class__" ∧ c = cc := by
  have h' : ([(("__class__" : Str), cc)] : List (Str × Addr)).lookup x = some c := h
  by_cases e : x = "__class__"
  · subst e
    simp [List.lookup] at h'
    exact ⟨rfl, h'.symm⟩
  · have : (x == ("__class__" : Str)) = false := by simpa using e
    simp [List.lookup, this] at h'
theorem inv_sup {us : List Value} {vs : List V} {h1 : Heap} {t : Nat} {cl : Value} {cld : Option Addr} {cv : Option Value} {csl : Array (Option Value)} (S : SupScope N ps scope) (hd : A.handled = none) (e0 : Env0 P w K mg base A outer s H) (hl : vs.length = ps.length) (r : Vals vs us)
    (hcell : K.lookup cc = some ⟨cl, cld, .cell cv, csl⟩)
    (hns : h1.Ns s.heap.objs.size (fun x => (ps.zip us).reverse.lookup x)) (hk : ∀ b o, s.heap.get? b = some o → h1.get? b = some o) :
    Inv (cxSup CX P w K mg base N qual scope f cd cc A outer s H E) [] (L2.start N vs) H { s with heap := h1, toks := t } := by
  have noA : ∀ b : Addr, b ∉ (cxSup CX P w K mg base N qual scope f cd cc A outer s H E).ex := fun b z => absurd (show b ∈ ([] : List Addr) from z) (by simp)
  have hcb := e0.mod.kin _ _ hcell
  refine ⟨⟨e0.mod, S.kind, rfl, rfl, Nat.le_refl _, fun y z c h1 h2 => (env_cells h1).1.trans (env_cells h2).1.symm, fun y hy => ?_, fun y c h _ => absurd h Bool.false_ne_true, fun _ => hd, Around.frames_deeper e0.frames, .inr ⟨rfl, rfl⟩, fun b z => absurd z (noA b), e0.bs, e0.bsz, fun b _ _ => noA b, fun b z => absurd z (noA b), e0.funs, e0.frf⟩,
    rfl, e0.bare, Un.kept hk, ⟨_, hns, fun i y v h1 h2 h3 => ?_⟩, fun y c h => ?_, e0.hok.fresh (Nat.le_refl _), fun y c h => ?_, fun p hp => absurd (show p ∈ ([] : List (Addr × Obj)) from hp) (by simp), e0.hok.kept hk, ?_⟩
  · have hy : scope.names.lookup y = some .cell ∨ scope.names.lookup y = some .free := hy
    rcases hy with hy | hy
    · exact absurd rfl (S.nocell _ (PySem.mem_of_lookup hy))
    · have e := S.free _ (PySem.mem_of_lookup hy) rfl
      refine ⟨cc, ?_⟩
      show ([(("__class__" : Str), cc)] : List (Str × Addr)).lookup y = some cc
      have e' : y = "__class__" := e
      rw [e']
      simp [List.lookup]
  · have hlen : N.length = vs.length := by rw [S.eqN, hl]
    have e2 : L2.start N vs = vs.map some := by unfold L2.start; rw [hlen, Nat.sub_self]; simp
    rw [e2, List.getElem?_map] at h2
    cases ea : vs[i]? with
    | none => rw [ea] at h2; cases h2
    | some a =>
      rw [ea] at h2
      cases h2
      obtain ⟨u, hu, rv⟩ := r.get ea
      have hp : ps[i]? = some y := by rw [← S.eqN]; exact h1
      exact ⟨u, rv, .inl ⟨S.par y (List.mem_of_getElem? hp), zip_lookup S.nd hp hu⟩⟩
  · obtain ⟨rfl, rfl⟩ := env_cells h
    exact ⟨cv, _, hk _ _ (e0.bs _ _ hcb).1, rfl⟩
  · obtain ⟨rfl, rfl⟩ := env_cells h
    exact (e0.bs _ _ hcb).2
  · unfold L2.start
    show _ = N.length
    rw [List.length_append, List.length_map, List.length_replicate, S.eqN]
    omega
end
open PySem.W (ksFn ksEnv)
/-- what the written part says of such a class -/
structure SupCls (P : Program) (K : PySem.W.Frag) (mg : Str → Option Value) (C : Addr) : Prop where
  cd : ∃ cd, PySem.W.clsIn K C = some cd
  mro : PySem.W.mroIn K C (.ref C) = some true
  sup : PySem.W.ks_superIn K C C "__init__" = some (some (.builtin "ValueError.__init__"))
  opq : PySem.W.nsIn K PySem.cStatics "thirdparty.any" = some none
  ve : PySem.W.subIn K (.ref C) (.type "ValueError") = some true
  mgs : mg "super" = none
  top : (P.main.scope.names.lookup ("super" : Str)).isSome = false
  ox : OexC K C
/-- and of its __init__ -/
structure SupFn (P : Program) (K : PySem.W.Frag) (st : Stmt) (qual : Str) (C f : Addr) (fd : FuncData) : Prop where
  ex : ∃ (oc : Value) (od : Option Addr) (kV doc pm : Value) (an : Option Addr) (cda : Addr) (ct : Value) (cc : Addr) (sl : Array (Option Value)),
    fd = ksFn "__init__" qual (defArgs st) (defBody st) (defScope st) .none kV doc pm an (.ref cda) ct cc ∧ K.lookup f = some ⟨oc, od, .func fd, sl⟩ ∧ PySem.W.codeIn K (.ref cda) qual = true ∧
    (∃ (a : Value) (b : Option Addr) (vs : Array Value) (d : Array (Option Value)) (file : Str) (tf : Tok), K.lookup cda = some ⟨a, b, .fields vs, d⟩ ∧ vs[2]? = some (.str file tf) ∧ ((P.main.file : Str) == file) = true) ∧
    ∃ (a : Value) (b : Option Addr) (d : Array (Option Value)), K.lookup cc = some ⟨a, b, .cell (some (.ref C)), d⟩
section
variable {CX : CXT} {P : Program} {w : World} {K : PySem.W.Frag} {mg : Str → Option Value} {base : Heap} {N ps : List Str} {qual : Str} {scope : Scope} {f cc cda C a : Addr} {A : Around} {outer : List Env} {s0 : Shared} {H0 : Hp} {E : XK}
variable {oc : Value} {od : Option Addr} {fd : FuncData} {sl : Array (Option Value)} {vs : Array Value} {file : Str} {tf : Tok}
theorem mw_call {X : Cx} {pins : List (Addr × Obj)} {σ : L2.St} {H : Hp} {s : Shared} {u : Addr} {us : List Value} {Q : Value → Shared → Prop} {B : Around} {EE : Value → Shared → Prop} (T : OexC X.K C) (I : Inv X ((u, PySem.W.kxs_mw "ValueError.__init__" a) :: pins) σ H s)
    (ea : H a = some (exo a C none)) (hz : us.length ≤ sizeLine) (q : ∀ s', Inv X ((u, PySem.W.kxs_mw "ValueError.__init__" a) :: pins) σ H s' → Q .none s') :
    wpAny (model X.prog X.w) B (call (.ref u) us) Q EE s := by
  obtain ⟨nm, q0, N0, bs, bm, sn, sub, ab, col, dd, k0, k1, k2, k3, k5, hC, hbm⟩ := T.cls
  obtain ⟨t1, ho⟩ := exo_at I.hok ea
  have hu := ClX.pin_at I
  have KX := I.kIn
  have eu : upd H a (exo a C none) = H := by
    funext b
    by_cases hb : b = a
    · rw [hb, upd_same, ea]
    · rw [upd_ne hb]
  have T1 : (Value.type "method-wrapper" == Value.type "method" || Value.type "method-wrapper" == Value.type "builtin_function_or_method" || Value.type "method-wrapper" == Value.type "method-wrapper") = true := by decide
  obtain ⟨hp, g, d, t, os⟩ := s
  refine wpAny_call (codeAny_of_tree ?_)
  show wpAny _ _ (callAny (.ref u) ⟨us, []⟩) _ _ _
  unfold callAny
  refine wpAny_bind (wpAny_load hu ?_)
  simp only [PySem.W.kxs_mw, T1, if_true]
  refine PySem.W.KFB.if_so (by decide) ?_
  refine wpAny_bind (PySem.W.check_bound_init F.excBase_ValueError.toExcCallFacts (KX _ _ hC) ho rfl ?_)
  refine wpAny_bind (wpAny_pure (wpAny_pure ⟨PySem.plainId_quiet F.excBase_ValueError.init.plain _, codeAny_builtin F.excBase_ValueError.initEntry ?_⟩))
  refine PySem.W.exc_init_tree (cls := .ref C) (t0 := t1) (dv := none) (c2 := .none) (c3 := .none) (b4 := .bool false) ho hz fun h' k e1 _ => ?_
  have J := I.write (t' := t) (x := a) (e := a) (o := exo a C none) (by rw [ea]; exact True.intro) (.inl rfl) k ⟨_, e1⟩ (exo_ok e1)
  rw [eu] at J
  exact q _ J

/-- super().__init__(e, ..) at the head of the body -/
theorem sup_run {an : Option Addr} {kV doc pm ct : Value} {body : List Stmt} {args : Arguments} {σ : L2.St} {H : Hp} {s : Shared} {ta : TA} {e : Expr} {es : List Expr} {p0 p1 p2 p3 p4 : Pos} {ar : Arg} {Q : Flow → Shared → Prop}
    (S : SupScope N ps scope) (D : SupCls P K mg C)
    (lk : K.lookup f = some ⟨oc, od, .func (ksFn "__init__" qual args body scope .none kV doc pm an (.ref cda) ct cc), sl⟩) (har : (args.posonlyargs ++ args.args).head? = some ar)
    (lc : ∃ (a : Value) (b : Option Addr) (vs : Array Value) (d : Array (Option Value)) (file : Str) (tf : Tok), K.lookup cda = some ⟨a, b, .fields vs, d⟩ ∧ vs[2]? = some (.str file tf) ∧ ((P.main.file : Str) == file) = true)
    (lq : ∃ (a : Value) (b : Option Addr) (d : Array (Option Value)), K.lookup cc = some ⟨a, b, .cell (some (.ref C)), d⟩)
    (I : Inv (cxSup CX P w K mg base N qual scope f (.ref cda) cc A outer s0 H0 E) [] σ H s) (h0 : σ[0]? = some (some (.ref a))) (hN : N[0]? = some ar.arg) (hloc : scope.names.lookup ar.arg = some .local)
    (ea : H a = some (exo a C none)) (hes : PA (cxSup CX P w K mg base N qual scope f (.ref cda) cc A outer s0 H0 E) (e :: es) ta)
    {R : Hp → Prop} (q : ta σ H fun us H1 => us.length ≤ 1000 ∧ H1 a = some (exo a C none) ∧ R H1)
    (cont : ∀ H1 s', R H1 → Inv (cxSup CX P w K mg base N qual scope f (.ref cda) cc A outer s0 H0 E) [] σ H1 s' → Q .next s')
    (he : starEach (e :: es) (ksEnv qual scope s0.heap.objs.size f (.ref cda) cc) = (false, eval e (ksEnv qual scope s0.heap.objs.size f (.ref cda) cc)) :: starEach es (ksEnv qual scope s0.heap.objs.size f (.ref cda) cc))
    (hpl : (backTo p3 (starEach es (ksEnv qual scope s0.heap.objs.size f (.ref cda) cc))).any (·.1) = false) 
    (hsw : swapsWith (.Call (.Attribute (.Call (.Name "super" p0) [] [] p1) "__init__" p2) (e :: es) [] p3) none p4.line (ksEnv qual scope s0.heap.objs.size f (.ref cda) cc) = pure false)
    {pl : Sem Bool} (hcall : eval (.Call (.Attribute (.Call (.Name "super" p0) [] [] p1) "__init__" p2) (e :: es) [] p3) (ksEnv qual scope s0.heap.objs.size f (.ref cda) cc) = (do
      let ov ← attributeBase (.Call (.Name "super" p0) [] [] p1) "__init__" (ksEnv qual scope s0.heap.objs.size f (.ref cda) cc) (eval (.Call (.Name "super" p0) [] [] p1) (ksEnv qual scope s0.heap.objs.size f (.ref cda) cc))
      standAt p2.atName
      let (fx, first) ← holding [ov] (getMethod ov "__init__" pl)
      callWith p3 fx first (backTo p3 (starEach (e :: es) (ksEnv qual scope s0.heap.objs.size f (.ref cda) cc))) []))
    (B : List Stmt) :
    PySem.wpAt (model P w) (A.deeper (ksEnv qual scope s0.heap.objs.size f (.ref cda) cc)) (.func B (ksEnv qual scope s0.heap.objs.size f (.ref cda) cc))
      (exec (.Expr (.Call (.Attribute (.Call (.Name "super" p0) [] [] p1) "__init__" p2) (e :: es) [] p3) p4) (ksEnv qual scope s0.heap.objs.size f (.ref cda) cc)) Q (cxSup CX P w K mg base N qual scope f (.ref cda) cc A outer s0 H0 E).xe s := by
  have KX : K.In s.heap := I.kIn
  obtain ⟨t1, hoe⟩ := exo_at I.hok ea
  obtain ⟨m, hn, hl⟩ := I.loc
  obtain ⟨u, ru, look⟩ := hl 0 ar.arg (.ref a) hN h0 (Or.inl hloc)
  obtain rfl : u = Value.ref a := ru
  have hm : m ar.arg = some (.ref a) := by
    rcases look with z | ⟨z, _⟩
    · exact z.2
    · have z : scope.names.lookup ar.arg = some .cell ∨ scope.names.lookup ar.arg = some .free := z
      rw [hloc] at z
      rcases z with z | z <;> cases z
  obtain ⟨c1, c2, vs, c3, file, tf, hcode, hvs, hfile⟩ := lc
  obtain ⟨c4, c5, c6, hcell⟩ := lq
  obtain ⟨cd, hcd⟩ := D.cd
  obtain ⟨mb, hb1, hb2⟩ := I.mod.blt
  obtain ⟨oD, hD1, hD2⟩ : ∃ oD, s.heap.get? C = some oD ∧ oD.data = .cls cd := by
    unfold PySem.W.clsIn at hcd
    split at hcd
    · rename_i ho
      cases hcd
      exact ⟨_, KX _ _ ho, rfl⟩
    · cases hcd
  obtain ⟨hh, g, d, t, os⟩ := s
  refine ks_wpAt_Expr_any ?_ I.quiet hsw
  refine ks_wpAt_MethodCall (he := hcall) ?_
  refine ks_wpAt_super_base (ar := ar) S.ks S.kc rfl rfl (KX _ _ lk) rfl har rfl (KX _ _ hcode) rfl hvs hfile D.top ?_
  refine PySem.W.ks_loadName_global S.kind S.ks (Calls.loadGlobal_builtin (I.mod.glob.keeps I.bk) D.mgs (hb1.keeps I.bk) ((hb2 _ (by decide)).trans PyProof.Rows.Boot.«super») ⟨rfl, ?_⟩)
  refine wpAny_loadName_free S.kind S.kc rfl ⟨_, KX _ _ hcell, rfl⟩ ?_
  refine wpAny_loadName_local S.kind hloc hn hm ?_
  refine ks_wpAny_isType_cls hD1 hD2 ⟨rfl, ?_⟩
  refine ks_wpAny_call_super hD1 hD2 hoe rfl (fun c z => by cases z) (PySem.W.looks_mroIn KX D.mro) (fun h' e1 k => ?_)
  have I1 := ClX.pin_new (t' := t) I k (Nat.le_refl _) e1 (fun v z => by cases z)
  have KX1 : K.In h' := I1.kIn
  have hca : a ≠ C := fun z => by
    subst z
    rw [hoe] at hD1
    cases hD1
    cases hD2
  have hsI : PySem.W.Looks (model P w) h' (isInstance (.ref a) (.type "ValueError")) true := by
    have II : PySem.W.InstAt h' a _ C none := ⟨k _ _ hoe, rfl, rfl, trivial⟩
    exact II.type.andThen (PySem.W.looks_subIn KX1 D.ve)
  have hsup := D.sup
  unfold PySem.W.ks_superIn at hsup
  rw [hcd] at hsup
  refine PySem.W.kxs_getMethod PySem.W.kxs_ValueError e1 (PySem.W.looks_opaque KX1 D.opq) (l₀ := cd.mro) (fun A Q E s k q => wpAny_bind ((PySem.W.looks_clsIn KX1 hcd) A _ E s k (wpAny_pure q))) rfl KX1 hsup hsI hca rfl ?_
  have I2 := ClX.pin_new (t' := t + 1) I1 (h' := h'.push (PySem.W.kxs_mw "ValueError.__init__" a)) (o := PySem.W.kxs_mw "ValueError.__init__" a) (fun b o z => Heap.get?_push_of_some _ z) (Nat.le_refl _) (Heap.get?_push_at rfl rfl) (fun v z => by cases z)
  dsimp only
  rw [he]
  refine PySem.W.kxs_callWith (i := "ValueError.__init__") (x := a) (by show (false || (backTo p3 (starEach es _)).any (·.1)) = false; rw [hpl]; rfl) (Calls.evalArgs_plain ?_)
  have run := hes.run p3 _ _ σ H _ I2 q
  rw [show starEach (e :: es) (cxSup CX P w K mg base N qual scope f (.ref cda) cc A outer s0 H0 E).env = _ from he] at run
  refine thn run fun us s1 ⟨xs, H1, I3, r1, hz, ea1, q1⟩ => ⟨ClX.pin_at I3, ?_⟩
  have hlen : us.length ≤ sizeLine := by
    rw [← Paired.length r1, sizeLine_eq]
    omega
  exact mw_call D.ox I3 ea1 hlen fun s' J => cont _ s' q1 (ClX.unpin (ClX.unpin J))

/-- such an __init__, by what it says behind super() -/
theorem sup_ok {st : Stmt} {fd : FuncData} {k : Nat} {sp : Sp} {body : List Stmt} {e : Expr} {p0 p1 p2 p3 p4 : Pos} {ar : Arg} {pl : Sem Bool} (F : SupFn P K st qual C f fd) (S : SupScope N ps (defScope st)) (D : SupCls P K mg C)
    (hb : defBody st = .Expr (.Call (.Attribute (.Call (.Name "super" p0) [] [] p1) "__init__" p2) [e] [] p3) p4 :: body) (har : ((defArgs st).posonlyargs ++ (defArgs st).args).head? = some ar) (hN : N[0]? = some ar.arg)
    (he : ∀ env : Env, starEach [e] env = [(false, eval e env)])
    (hsw : ∀ env : Env, swapsWith (.Call (.Attribute (.Call (.Name "super" p0) [] [] p1) "__init__" p2) [e] [] p3) none p4.line env = pure false)
    (hcall : ∀ env : Env, eval (.Call (.Attribute (.Call (.Name "super" p0) [] [] p1) "__init__" p2) [e] [] p3) env = (do
      let ov ← attributeBase (.Call (.Name "super" p0) [] [] p1) "__init__" env (eval (.Call (.Name "super" p0) [] [] p1) env)
      standAt p2.atName
      let (fx, first) ← holding [ov] (getMethod ov "__init__" pl)
      callWith p3 fx first (backTo p3 (starEach [e] env)) []))
    (len : ∀ vs H Q E, sp vs H Q E → vs.length = ps.length)
    (hbody : ∀ (cda : Value) (cc : Addr) (A : Around) (outer : List Env) (s : Shared) (H : Hp) (vs : List V) (Q : VK) (E : XK), Room k (A.deeper (ksEnv qual (defScope st) s.heap.objs.size f cda cc)) → sp vs H Q E →
      ∃ (a : Addr) (te : TE) (t : TS), vs[0]? = some (.ref a) ∧ H a = some (exo a C none) ∧ PE (cxSup CX P w K mg base N qual (defScope st) f cda cc A outer s H E) e te ∧ PSs (cxSup CX P w K mg base N qual (defScope st) f cda cc A outer s H E) body t ∧
        te (L2.start N vs) H fun x H1 => [x].length ≤ 1000 ∧ H1 a = some (exo a C none) ∧ t { nx := fun _ H' => Q .non H', rt := Q } (L2.start N vs) H1) : FnOk P w K mg base CX (k + 1) f fd ps sp := by
  obtain ⟨oc, od, kV, doc, pm, an, cda, ct, cc, sl, rfl, lk, hcd, lc, lq⟩ := F.ex
  refine ⟨len, fun A outer s H args us vs Q E hr e0 hbi r hsp => ?_⟩
  have hl := len _ _ _ _ hsp
  have KX : K.In s.heap := e0.mod.kin.keeps fun b o e => (e0.bs b o e).1
  have lim : s.heap.NoLimit := e0.mod.nolimit.keeps fun b o e => (e0.bs b o e).1
  obtain ⟨c4, c5, c6, hcell⟩ := lq
  refine ks_codeAny_call_defAt (body := defBody st) hr.depth (KX _ _ lk) rfl lim (PySem.W.codeRec_of KX hcd) rfl hbi S.nocell (fun ⟨n, v⟩ hy => S.par n (List.of_mem_zip hy).1) (fun h1 hns hk => ?_) S.co S.gen S.kind
  obtain ⟨a, te, t, hv, ea, pe, pss, q⟩ := hbody (.ref cda) cc A outer s H vs Q E (hr.deeper _) hsp
  have I : Inv (cxSup CX P w K mg base N qual (defScope st) f (.ref cda) cc A outer s H E) [] (L2.start N vs) H _ := inv_sup (t := s.toks + (ps.zip us).length) S hr.hd e0 hl r hcell hns hk
  have fin : ∀ {σ' : L2.St} {H' : Hp} {v : V} {u : Value} {s' : Shared}, Inv (cxSup CX P w K mg base N qual (defScope st) f (.ref cda) cc A outer s H E) [] σ' H' s' → RelV v u → Q v H' → CE outer P w H s Q u s' :=
    fun {σ' H' v u s'} J rv q => ⟨v, H', J.os, J.bare, J.base, J.hok, rv, q⟩
  have h0 : (L2.start N vs)[0]? = some (some (V.ref a)) := by
    unfold L2.start
    rw [List.getElem?_append_left (by rw [List.length_map]; exact (List.getElem?_eq_some_iff.mp hv).1), List.getElem?_map, hv]
    rfl
  have hloc : (defScope st).names.lookup ar.arg = some .local := S.par _ (by rw [← S.eqN]; exact List.mem_of_getElem? hN)
  show PySem.wpAt _ _ _ (execs (defBody st) _) _ _ _
  rw [hb]
  refine ks_wpAt_execs_cons ?_
  refine sup_run S D lk har lc ⟨c4, c5, c6, hcell⟩ I h0 hN hloc ea (pa_cons pe pa_nil (he _)) q (fun H1 s1 q1 J => ?_) (he _) rfl (hsw _) (hcall _) _
  refine wpAt_of_wpAny (wpAny_mono (pss.run [] s1 (L2.start N vs) H1 _ J q1) (fun fl s' hs => ?_) fun e s' hs => hs)
  cases fl with
  | ret u =>
    obtain ⟨v, σ', H', J, rv, q⟩ := hs
    exact fin J rv q
  | next =>
    obtain ⟨σ', H', J, q⟩ := hs
    exact fin (v := V.non) (u := Value.none) J rfl q
  | brk =>
    obtain ⟨_, _, _, q⟩ := hs
    exact False.elim q
  | cont =>
    obtain ⟨_, _, _, q⟩ := hs
    exact False.elim q
end
end My
set_option maxRecDepth 100000
set_option maxHeartbeats 1000000
namespace My
open PySem PySem.Spec PyProof.Rows L2
/-! ### max(x, default=d) of a list of whole numbers -/
theorem ints_reads {h : Heap} : ∀ {ns : List Int} {us : List Value}, Vals (ns.map V.int) us → ReadsAll h us (ns.map PyData.int) []
  | [], _, .nil => .nil
  | n :: ns, _, .cons r t => by
    obtain ⟨tk, rfl⟩ := r
    exact ReadsAll.cons (as := []) (bs := []) (.int n tk) (ints_reads t)
theorem alike_ints (ns : List Int) : PySem.W.AlikeAll (ns.map PyData.int) := by
  refine ⟨fun x hx y hy => ?_, fun x hx => ?_⟩
  · obtain ⟨i, _, rfl⟩ := List.mem_map.mp hx
    obtain ⟨j, _, rfl⟩ := List.mem_map.mp hy
    rfl
  · obtain ⟨i, _, rfl⟩ := List.mem_map.mp hx
    exact fun z => nomatch z
theorem depth_ints : ∀ ns : List Int, PyData.depthAll (ns.map PyData.int) ≤ 1
  | [] => by simp [PyData.depthAll]
  | n :: ns => by
    have := depth_ints ns
    simp only [List.map_cons, PyData.depthAll, PyData.depth]
    omega
theorem foldl_max (ns : List Int) : ∀ n : Int, (ns.foldl max n ∈ n :: ns) ∧ ∀ y ∈ n :: ns, y ≤ ns.foldl max n := by
  induction ns with
  | nil => intro n; simp
  | cons k r ih =>
    intro n
    obtain ⟨h1, h2⟩ := ih (max n k)
    rw [List.foldl_cons]
    refine ⟨?_, fun y hy => ?_⟩
    · rcases List.mem_cons.mp h1 with e | e
      · rw [e]
        rcases Int.le_total n k with z | z
        · rw [Int.max_eq_right z]; simp
        · rw [Int.max_eq_left z]; simp
      · exact List.mem_cons_of_mem _ (List.mem_cons_of_mem _ e)
    · have hm := h2 (max n k) List.mem_cons_self
      rcases List.mem_cons.mp hy with e | e
      · rw [e]; omega
      · rcases List.mem_cons.mp e with e | e
        · rw [e]; omega
        · exact h2 y (List.mem_cons_of_mem _ e)
section
variable {X : Cx}
def rMaxDf (K : PySem.W.Frag) : List V → List V → Hp → VK → Prop := fun xs zs H Q => ∃ (a : Addr) (ns : List Int) (d : Int), xs = [.ref a] ∧ zs = [.int d] ∧ SqL K H a (ns.map V.int) ∧
  (ns = [] → Q (.int d) H) ∧ ∀ m, m ∈ ns → (∀ y ∈ ns, y ≤ m) → Q (.int m) H
theorem call_maxDf (hc : X.calm = true) (hu : X.A.units + 10 < cLine) : CallRK X (.builtin "max") ["default"] (rMaxDf X.K) := by
  intro pins s σ H xs zs us ws Q I r rz h
  obtain ⟨a, ns, d, rfl, rfl, hq, h0, h1⟩ := h
  obtain rfl := Vals.ref1 r
  obtain ⟨w, rfl, rw'⟩ := rz.one
  obtain ⟨its, rv, pl, hz⟩ := I.list hq
  have hd := depth_ints ns
  refine PySem.W.max_list_default (I.ok.hd hc) pl.isList (xs := ns.map PyData.int) (as := []) (by rw [List.toList_toArray]; exact ints_reads rv) (alike_ints ns) (by show X.A.units + 1 + _ < _; omega) (fun e h' tk k => ?_) fun y ys i v h' tk bs e hv rd k => ?_
  · exact ⟨.int d, H, I.kept (t' := tk) k, rw', h0 (List.map_eq_nil_iff.mp e)⟩
  · cases ns with
    | nil => cases e
    | cons n ns =>
      rw [List.map_cons] at e
      obtain ⟨rfl, rfl⟩ := List.cons.inj e
      rw [PySem.W.maxD_ints] at rd
      obtain ⟨t0, rfl, _⟩ := reads_int_inv rd
      obtain ⟨m1, m2⟩ := foldl_max ns n
      exact ⟨.int (ns.foldl max n), H, I.kept (t' := tk) k, ⟨_, rfl⟩, h1 _ m1 m2⟩
/-! ### isinstance(e, c) of a caught error with fields -/
theorem call_isExD {a : Addr} {oe : Obj} {cls : Value} {d : Option Addr} {pn : List (Addr × Obj)} (hz : Zc cls d oe) (hf : ∃ vs, oe.data = .fields vs) :
    CallR (X.suite a ((a, oe) :: pn)) (.builtin "isinstance") (fun xs H Q => ∃ D dd fs, cls = .ref D ∧ d = some dd ∧ H dd = some (.xd fs) ∧ ExcC X.K D ∧ rIsE X.K D a xs H Q) := by
  intro pins s σ H xs us Q I r h
  obtain ⟨D, dd, fs, rfl, rfl, hd, C, c, cv, b, rfl, hcv, e, q⟩ := h
  cases r with
  | cons rx rr =>
    cases rr with
    | cons rt rr =>
      cases rr
      cases rx
      have ec := hcv _ rt
      subst ec
      obtain ⟨hget, _⟩ := I.pin (a, oe) (List.mem_append.mpr (.inl List.mem_cons_self))
      obtain ⟨vs, hv⟩ := hf
      have hx : ObjOk X.prog X.w H s.heap dd (.xd fs) := I.hok dd _ hd
      obtain ⟨mA, ⟨od, es, ep, ho, _⟩, _⟩ := hx
      have J : PySem.W.InstAt s.heap a oe D (some od) := ⟨hget, hz.1, by unfold PySem.W.notCls; rw [hv] <;> rfl, by rw [hz.2]; exact ho⟩
      obtain ⟨cdD, hcD, _⟩ := PySem.W.any_some C.hd
      refine PySem.W.kia_one (PySem.W.kitx_exc (od := some od) (by rw [hcD]; rfl) C.hg C.hk C.hs C.ha C.hn C.ht C.hm) I.kIn J e (fun z => nomatch z) fun tk => ⟨.bl b, H, I.kept (t' := tk) fun _ _ z => z, rfl, q⟩
end
/-! ### what such a class has, by a check -/
theorem tail_refs : ∀ {l : List Value}, PySem.W.excTail [.type "ValueError", .type "Exception", .type "BaseException", .type "object"] l = true → PySem.HandSPX.refsVE l = true := by
  intro l
  induction l with
  | nil => intro h; revert h; decide
  | cons a t ih =>
    intro h
    cases a <;> first | exact ih h | exact h
theorem oex_of {K : PySem.W.Frag} {C : Addr} (q : PySem.W.excInitIn K C [.type "ValueError", .type "Exception", .type "BaseException", .type "object"] "ValueError.__new__" = true) (hd : PySem.W.hasDictIn K C = true)
    (sa : PySem.W.findIn K (.ref C) "__setattr__" = some (some (.builtin "object.__setattr__"))) (bp : PySem.W.subIn K (.ref C) (.type "BaseException") = some true) (tp : PySem.W.typeIn K (.ref C) = some (.type "type")) (kp : PySem.W.keepIn K (.ref C) = true) : OexC K C := by
  refine ⟨?_, sa, bp, tp, kp⟩
  unfold PySem.W.excInitIn at q
  split at q
  · rename_i dd cd sl ho
    split at q
    · rename_i C' bm k0 k1 k2 k3 n k5 hm hs
      simp only [Bool.and_eq_true, beq_iff_eq, Bool.not_eq_true'] at q
      obtain ⟨⟨⟨e1, e2⟩, hdel⟩, ht⟩ := q
      subst e1
      subst e2
      obtain ⟨cd1, hc1, hd1⟩ := PySem.W.any_some hd
      have ec : PySem.W.clsIn K C' = some cd := by unfold PySem.W.clsIn; rw [ho]
      rw [ec] at hc1
      cases hc1
      obtain ⟨nm, bs, mro, ns, qn, hdc, sn, sub, ab, col, del⟩ := cd
      dsimp only at hm hdel hd1
      subst hm
      subst hdel
      subst hd1
      have hsl : sl = #[k0, k1, k2, k3, some (.builtin "ValueError.__new__"), k5] := by
        obtain ⟨l⟩ := sl
        simp only at hs
        rw [hs]
      subst hsl
      exact ⟨nm, qn, ns, bs, bm, sn, sub, ab, col, dd, k0, k1, k2, k3, k5, ho, tail_refs ht⟩
    · cases q
  · cases q
/-! ### the promises of such an __init__ -/
/-- one field -/
def spX1 (C : Addr) (f : Str) (P : V → Prop) : Sp := fun vs H Q _ => ∃ (a : Addr) (y : V), vs = [.ref a, y] ∧ P y ∧ H a = some (exo a C none) ∧ ∀ d, H d = none → d ≠ a → Q .non (upd (upd H d (exd d [(f, y)])) a (exo a C (some d)))
def smallI (y : V) : Prop := ∃ i : Int, y = .int i ∧ i.natAbs < 1000000
theorem small_log {i : Int} (h : i.natAbs < 1000000) : i.natAbs.log2 < 1920 := by
  rcases Nat.eq_zero_or_pos i.natAbs with e | e
  · rw [e]; decide
  · exact Nat.lt_of_lt_of_le ((Nat.log2_lt (by omega)).mpr (Nat.lt_of_lt_of_le h (by decide : 1000000 ≤ 2 ^ 20))) (by decide)
end My
set_option maxRecDepth 100000
set_option maxHeartbeats 1000000
namespace My
open PySem PySem.Spec PyProof.Rows L2
/-! ### iter(t) of a tuple; list(o), o's class with its own __iter__ (a tuple's iterator) and its own __len__ -/
/-- a tuple's iterator at it, over the tuple at l, the next place i -/
def TitO (l it : Addr) (i : Nat) : HO := .ext fun h => h.IsTupleIter it l i
/-- at it stands something -/
def AnyO (it : Addr) : HO := .ext fun h => ∃ o, h.get? it = some o
theorem titO_ok {P : Program} {w : World} {H : Hp} {h : Heap} {l it : Addr} {i : Nat} (e : h.IsTupleIter it l i) : ObjOk P w H h it (TitO l it i) :=
  ⟨e, ⟨_, e.choose_spec.1⟩, fun h1 h2 q k => let ⟨o, ho, r⟩ := q; ⟨o, k _ ho, r⟩⟩
theorem anyO_ok {P : Program} {w : World} {H : Hp} {h : Heap} {it : Addr} (e : ∃ o, h.get? it = some o) : ObjOk P w H h it (AnyO it) := ⟨e, e, fun h1 h2 q k => let ⟨o, ho⟩ := q; ⟨o, k _ ho⟩⟩
section
variable {X : Cx} {pins : List (Addr × Obj)} {σ : L2.St} {H : Hp} {s : Shared} {l it S : Addr} {i : Nat}
theorem titO_get (I : Inv X pins σ H s) (e : H it = some (TitO l it i)) : s.heap.IsTupleIter it l i := (I.hok it _ e).1
theorem call_iterT : CallR X (.builtin "iter") (fun xs H Q => ∃ (l : Addr) (zs : List V), xs = [.ref l] ∧ SqT X.K H l zs ∧ ∀ it, H it = none → Q (.ref it) (upd H it (TitO l it 0))) := by
  intro pins s σ H xs us Q I r h
  obtain ⟨l, zs, rfl, hq, q⟩ := h
  obtain rfl := Vals.ref1 r
  obtain ⟨its, rv, pl, hz⟩ := I.tuple hq
  refine Calls.call_function_entry (by decide +kernel) (by decide +kernel) PySem.W.kdk_entry_iter (PySem.W.kdk_args_iter _) ?_
  unfold Builtin.«iter»
  refine wpAny_bind (m := someArgs "iter" 1 2 _) (wpAny_of_eq (a := [Value.ref l]) (by first | rfl | kernel_rfl!) ?_)
  show wpAny _ _ (pyIter (.ref l) >>= _) _ _ _
  refine wpAny_bind (wpAny_pyIter_tuple (show s.heap.IsTuple l its.toArray from pl) (wpAny_pure ⟨_, rfl, ?_⟩))
  exact ⟨.ref s.heap.objs.size, _, I.laid (t' := s.toks) (fun b u e => Heap.get?_push_of_some _ e) (Nat.le_refl _) (titO_ok ⟨_, Heap.get?_push_size _ rfl, rfl, rfl⟩), rfl, q _ (I.hok.fresh (Nat.le_refl _))⟩
/-- the end of a tuple's iterator; its record stays -/
theorem tup_end {prog : Program} {w : World} {A : Around} {E : Value → Shared → Prop} {items : Array Value} {Q : Option Value → Shared → Prop} (hh : A.handled = none) (hit : s.heap.IsTupleIter it l i) (ht : s.heap.IsTuple l items) (hx : items[i]? = none)
    (hQ : ∀ h', (∀ b o, b ≠ it → s.heap.get? b = some o → h'.get? b = some o) → (∃ o, h'.get? it = some o) → Q none { s with heap := h' }) : wpAny (model prog w) A (pyNext (.ref it)) Q E s := by
  obtain ⟨o, ho, hc, hd⟩ := id hit
  obtain ⟨ol, hol, _, nl, hdl⟩ := ht
  have hup := Heap.get?_update_self (Obj.mapFields (·.setIfInBounds 0 Value.none)) ho (Obj.isFreed_of_fields (Obj.data_mapFields hd _))
  unfold pyNext
  refine wpAny_bind (wpAny_attempt (wpAny_callSpecial?_slot (name := Str.ofString "__next__") hit.typeIs PySem.F.slot_tuple_iterator_next (wpAny_call_entry PySem.F.slot_tuple_iterator_next hit.typeIs PySem.F.entry_tuple_iterator_next ?_ (PySem.F.args_tuple_iterator_next_1 _))))
  show wpAny _ _ (field (.ref it) 0 >>= _) _ _ s; refine wpAny_bind (wpAny_field ho hd (x := .ref l) rfl ?_); show wpAny _ _ (if (Value.ref l == Value.none) = true then _ else _) _ _ s
  rw [if_neg (fun z => by revert z; exact Bool.false_ne_true : ¬ ((Value.ref l == Value.none) = true))]; show wpAny _ _ (field (.ref it) 1 >>= _) _ _ s
  refine wpAny_bind (wpAny_field ho hd (x := .int i 0) rfl ?_); show wpAny _ _ (seqItems? (.ref l) >>= _) _ _ s
  refine wpAny_bind (wpAny_seqItems hol hdl ?_)
  simp only [Int.toNat_natCast, hx]
  refine wpAny_bind (wpAny_rule (wpAny_bind (wpAny_setField ho hd (by simp) ?_))); show wpAny _ _ (newExc (.type "StopIteration") [] >>= _) _ _ _
  refine wpAny_bind ?_
  simp only [newExc, newTuple]
  refine wpAny_bind (wpAny_newObj_type ?_ (by size_fits)); refine wpAny_bind (m := firstArgMember _ _) (wpAny_of_eq (a := Value.none) (by first | rfl | (simp only [firstArgMember]; rfl)) ?_)
  refine wpAny_newObj_type ?_ (by size_fits)
  simp only [raiseNew]
  refine wpAny_bind (wpAny_handled ?_)
  first | rw [show A.in1.handled = none from hh] | rw [hh]
  refine wpAny_bind (wpAny_pure (wpAny_throw ?_))
  refine wpAny_bind (wpAny_isInstance (T := "StopIteration") (b := true) ⟨_, Heap.get?_push_size _ rfl, rfl⟩ isSubtype_stop (wpAny_pure (hQ _ (fun b ob hb e => ?_) ⟨_, Heap.get?_push_of_some _ (Heap.get?_push_of_some _ hup)⟩)))
  exact Heap.get?_push_of_some _ (Heap.get?_push_of_some _ ((Heap.get?_update_other _ _ (Ne.symm hb)).trans e))
/-- list.extend over it -/
theorem tit_loop {A1 : Around} {ys : List V} {Rs : Result → Shared → Prop} (hh : A1.handled = none) :
    ∀ (k i : Nat) (H : Hp) (s : Shared), ys.length - i = k → i ≤ ys.length → Inv X pins σ H s → H it = some (TitO l it i) → H l = some (.tup ys) → H S = some (.lst (ys.take i)) → ys.length < sizeLine →
      (∀ H2 s2, Inv X pins σ H2 s2 → (∀ b, b ≠ it → b ≠ S → H2 b = H b) → H2 S = some (.lst ys) → Rs (.ok (.ret .none)) s2) → codeAny (model X.prog X.w) A1 (.builtin "list.extend.loop" ⟨[.ref S, .ref it, .none], []⟩) Rs s := by
  intro k
  induction k with
  | zero =>
    intro i H s hk hi I h1 h2 h3 hz hR
    have hne : S ≠ it := ne_of h3 h1 (fun z => nomatch z)
    obtain ⟨its, rv, pl, _⟩ := I.tuple (SqT.of h2)
    refine codeAny_builtin PySem.F.entry_extend_loop ?_
    rw [Around.under_plainId PySem.F.plain_extend_loop _]
    show wpAny _ A1.in1 (pyNext (.ref it) >>= _) _ _ s
    have hno : (its.toArray)[i]? = none := by
      have := rv.length
      rw [List.getElem?_toArray, List.getElem?_eq_none_iff]
      omega
    refine wpAny_bind (tup_end hh (titO_get I h1) (show s.heap.IsTuple l its.toArray from pl) hno fun h' k' e' => wpAny_pure ?_)
    have J := I.write (t' := s.toks) (x := it) (e := it) (o := AnyO it) (by rw [h1]; exact True.intro) (.inl rfl) k' e' (anyO_ok e')
    refine hR _ _ J (fun b hb _ => upd_ne hb) ?_
    rw [upd_ne hne, h3, List.take_of_length_le (by omega)]
  | succ k ih =>
    intro i H s hk hi I h1 h2 h3 hz hR
    have hne : S ≠ it := ne_of h3 h1 (fun z => nomatch z)
    have hln : l ≠ it := ne_of h2 h1 (fun z => nomatch z)
    have hlS : l ≠ S := ne_of h2 h3 (fun z => nomatch z)
    obtain ⟨its, rv, pl, _⟩ := I.tuple (SqT.of h2)
    have hlen := rv.length
    have hlt : i < ys.length := by omega
    obtain ⟨u, hu, ru⟩ := rv.get (i := i) (x := ys[i]) (by simp [hlt])
    refine codeAny_builtin PySem.F.entry_extend_loop ?_
    rw [Around.under_plainId PySem.F.plain_extend_loop _]
    show wpAny _ A1.in1 (pyNext (.ref it) >>= _) _ _ s
    refine wpAny_bind (wpAny_pyNext_tuple_item (titO_get I h1) (show s.heap.IsTuple l its.toArray from pl) (x := u) (by rw [List.getElem?_toArray]; exact hu) fun h' hit hs => ?_)
    have J := I.write (t' := s.toks) (x := it) (e := it) (o := TitO l it (i + 1)) (by rw [h1]; exact True.intro) (.inl rfl) (fun b o hb e => hs.extBut b o hb e) ⟨_, hit.choose_spec.1⟩ (titO_ok hit)
    have h3' : upd H it (TitO l it (i + 1)) S = some (.lst (ys.take i)) := by rw [upd_ne hne]; exact h3
    show wpAny _ A1.in1 (updateSeq S (·.push u) >>= _) _ _ _
    obtain ⟨z, its3, n3, r3, hl3, e3⟩ := J.lstM h3'
    have hl4 : its3.length = i := by rw [← hl3, List.length_take]; omega
    refine wpAny_bind (wpAny_updateSeq e3 rfl (wpAny_pure ⟨plainId_quiet PySem.F.plain_extend_loop _, ?_⟩) (by rw [List.size_toArray]; omega) (by show (its3.toArray.push u).size ≤ sizeLine + 1; rw [Array.size_push, List.size_toArray]; omega))
    have et : ys.take (i + 1) = ys.take i ++ [ys[i]] := by rw [List.take_succ]; simp [hlt]
    have J2 := J.lset (f := (·.push u)) (its' := its3 ++ [u]) (t' := s.toks) (ys := ys.take (i + 1)) h3' e3 (by simp) (by rw [et]; exact r3.append (.cons ru .nil)) (by rw [List.length_take]; omega)
    refine ih (i + 1) _ _ (by omega) hlt J2 ?_ ?_ upd_same hz fun H2 s2 I2 k2 e2 => hR H2 s2 I2 (fun b hb hc => ?_) e2
    · rw [upd_ne (Ne.symm hne), upd_same]
    · rw [upd_ne hlS, upd_ne hln]; exact h2
    · rw [k2 b hb hc, upd_ne hc, upd_ne hb]
/-- what such a class must have -/
structure ItL (K : PySem.W.Frag) (C fi fl : Addr) : Prop where
  it : PySem.W.findIn K (.ref C) "__iter__" = some (some (.ref fi))
  itF : PySem.W.isFn K (.ref fi) = true
  ln : PySem.W.findIn K (.ref C) "__len__" = some (some (.ref fl))
  lnF : PySem.W.isFn K (.ref fl) = true

/-- list(o): its __iter__ gives a tuple's iterator, its __len__ a number -/
def rLstIt (C : Addr) (spI spL : Sp) (EI EL : XK) : List V → Hp → VK → Prop := fun xs H Q => ∃ a dx fs, xs = [.ref a] ∧ H a = some (.ins C dx fs) ∧ ∀ q, H q = none → q ≠ a →
  spI [.ref a] (upd H q (.lst [])) (fun v H1 => ∃ it l ys, v = .ref it ∧ H1 it = some (TitO l it 0) ∧ H1 l = some (.tup ys) ∧ H1 q = some (.lst []) ∧ H1 a = some (.ins C dx fs) ∧ ys.length < sizeLine ∧
    spL [.ref a] H1 (fun n H2 => H2 = H1 ∧ ∃ k : Int, n = .int k ∧ 0 ≤ k ∧ k < 1000) EL ∧ ∀ H2, (∀ b, b ≠ it → b ≠ q → H2 b = H1 b) → H2 q = some (.lst ys) → Q (.ref q) H2) EI
section
variable {X : Cx} {CI : CXT} {n : Nat} {C fi fl : Addr} {fdI fdL : FuncData} {psI psL : List Str} {spI spL : Sp} {EI EL : XK}
theorem call_at0 {f : Addr} {fd : FuncData} {ps : List Str} {sp : Sp} {E : XK} (G0 : FnOk X.prog X.w X.K X.mg X.base CX0 n f fd ps sp) (hb : Binds X.K fd ps []) {A : Around} (hr : Room n A) (hA : A.frames = X.A.frames)
    {pins : List (Addr × Obj)} {s : Shared} {σ : L2.St} {H : Hp} (I : Inv X pins σ H s) {vs : List V} {us : List Value} (r : Vals vs us) {Q : VK} {EE : Value → Shared → Prop} (h : sp vs H Q E) :
    wpAny (model X.prog X.w) A (call (.ref f) us) (EP X pins σ Q) EE s := by
  have e0 : Env0 X.prog X.w X.K X.mg X.base A X.stack s H := by
    have e := I.env0
    exact ⟨by rw [hA]; exact e.frames, e.mod, e.bs, e.bsz, e.funs, e.frf, e.hok, e.bare⟩
  have hl := G0.len _ _ _ _ h
  refine wpAny_call (codeAny_mono (G0.run A X.stack s H ⟨us, []⟩ us vs Q E hr e0 (by
    have := hb s us I.kIn (by rw [List.append_nil, ← r.length]; exact hl)
    simpa using this) r h) fun r s' hq => ?_)
  cases r with
  | error e => exact False.elim hq
  | ok fl =>
    cases fl with
    | ret w => exact I.after hq
    | next => exact False.elim hq
    | brk => exact False.elim hq
    | cont => exact False.elim hq
theorem call_listIt (hc : ItL X.K C fi fl) (FI : FnOk X.prog X.w X.K X.mg X.base CI n fi fdI psI spI) (bI : Binds X.K fdI psI []) (xI : Passes CI X EI)
    (FL : FnOk X.prog X.w X.K X.mg X.base CX0 n fl fdL psL spL) (bL : Binds X.K fdL psL []) (hr : Room (n + 4) X.A) : CallR X (.type "list") (rLstIt C spI spL EI EL) := by
  intro pins s σ H xs us Q I rv h
  obtain ⟨a, dx, fs, rfl, ha, hq⟩ := h
  obtain ⟨u, rfl, ru⟩ := rv.one
  cases ru
  have sb : Sub X (n + 2) X.A.in1.in1 := (Sub.in1 (Sub.in1 (⟨hr, rfl⟩ : Sub X (n + 4) X.A)))
  refine callType_codes (Q₁ := fun obj s₁ => obj = .ref s.heap.objs.size ∧ s₁ = { s with heap := s.heap.push { cls := .type "list", data := .seq #[] } }) PySem.F.called_list (PySem.F.typeCall_list_1 _) PySem.F.entry_list_init (code_list_new _ ⟨rfl, rfl⟩) fun obj s₁ h₁ => ?_
  obtain ⟨rfl, rfl⟩ := h₁
  have hS : (s.heap.push { cls := .type "list", data := .seq #[] }).get? s.heap.objs.size = some { cls := .type "list", data := .seq #[] } := Heap.get?_push_size _ rfl
  refine ⟨⟨_, hS, rfl⟩, PySem.F.args_list_init_2 _ _, ?_⟩
  have fr : H s.heap.objs.size = none := I.hok.fresh (Nat.le_refl _)
  have sp0 := hq _ fr (fun z => by rw [z, ha] at fr; cases fr)
  have I1 : Inv X pins σ (upd H s.heap.objs.size (.lst [])) { s with heap := s.heap.push { cls := .type "list", data := .seq #[] } } := I.lnew (its := []) (t' := s.toks) .nil (Nat.zero_le _)
  show wpAny _ _ (do let old ← Builtin.List.listItems (.ref s.heap.objs.size); Builtin.List.listUpdate (.ref s.heap.objs.size) (fun _ => #[]); letGo old.toList.reverse; Builtin.List.listExtendWith (.ref s.heap.objs.size) (.ref a) .none) _ _ _
  refine wpAny_bind ?_
  unfold Builtin.List.listItems
  refine wpAny_bind (wpAny_seqItems hS rfl (wpAny_pure ?_))
  show wpAny _ _ (updateSeq s.heap.objs.size (fun _ => #[]) >>= fun _ => letGo (#[] : Array Value).toList.reverse >>= fun _ => Builtin.List.listExtendWith (.ref s.heap.objs.size) (.ref a) .none) _ _ _
  refine wpAny_bind (wpAny_updateSeq hS rfl ?_)
  have I2 := I1.lset (f := fun _ => #[]) (its := []) (its' := []) (ys := []) (t' := s.toks) upd_same hS rfl .nil (Nat.zero_le _)
  rw [upd_upd] at I2
  refine wpAny_bind (wpAny_letGo ?_)
  have ha2 : upd H s.heap.objs.size (.lst []) a = some (.ins C dx fs) := by rw [upd_ne (ne_of_none ha fr)]; exact ha
  have hne : s.heap.objs.size ≠ a := fun z => by rw [z, ha] at fr; cases fr
  generalize hq0 : s.heap.objs.size = q at *
  generalize hH0 : upd H q (.lst []) = H0 at *
  obtain ⟨mA, J, _⟩ := ins_get I2.hok ha2
  obtain ⟨od, J, _⟩ := J.look
  obtain ⟨m0, hF⟩ := I2.fr
  unfold Builtin.List.listExtendWith
  refine wpAny_bind (J.type.here ?_)
  have h1 : Builtin.List.listSameRef (.ref q) (.ref a) = false := by simp [Builtin.List.listSameRef, hne]
  simp only [h1, (rfl : (Value.ref C == Value.type "list") = false), (rfl : (Value.ref C == Value.type "tuple") = false), Bool.or_false, Bool.false_eq_true, if_false]
  refine wpAny_bind (PySem.W.owit_iter hF I2.ok.mod.kin J hc.it hc.itF ?_)
  refine wpAny_mono (call_at FI bI xI (A := X.A.in1.in1) (sb.mono (by omega)).room sb.fr I2 (vs := [.ref a]) (.cons rfl .nil) sp0) (fun v s3 z => ?_) fun _ _ z => z
  obtain ⟨x, H1, I3, r3, it, l, ys, ex, e1, e2, e3, e4, hz, q1, q2⟩ := z
  subst ex
  obtain rfl : v = Value.ref it := r3
  have hit := titO_get I3 e1
  unfold PySem.W.OwitIt
  refine wpAny_specialOf (show s3.TypeIs (.ref it) "tuple_iterator" from hit.typeIs) PySem.F.slot_tuple_iterator_next.lookup ?_
  show wpAny _ _ _ _ _ s3
  refine wpAny_bind (wpAny_holding ?_)
  obtain ⟨mB, J3, _⟩ := ins_get I3.hok e4
  obtain ⟨od3, J3, _⟩ := J3.look
  obtain ⟨m3, hF3⟩ := I3.fr
  unfold Builtin.List.listLengthHint
  refine wpAny_bind (wpAny_bind (J3.type.here ((PySem.W.looks_findIn I3.kIn hc.ln).here ?_)))
  refine PySem.W.KFB.if_not rfl ?_
  refine PySem.W.KFB.if_so rfl ?_
  refine wpAny_bind (wpAny_rule (wpAny_bind (wpAny_attempt ?_)))
  refine PySem.W.len_K hF3 I3.ok.mod.kin J3 hc.ln hc.lnF (wpAny_mono (call_at0 FL bL (A := X.A.in1.in1.in1) (Sub.in1 (sb.mono (show n + 1 ≤ n + 2 by omega))).room sb.fr I3 (vs := [.ref a]) (.cons rfl .nil) q1) (fun v s4 z => ?_) fun _ _ z => z)
  obtain ⟨x, H2, I4, r4, eH, k0, ek, hk0, hk1⟩ := z
  subst ek
  subst eH
  obtain ⟨tk4, rfl⟩ := r4
  refine ⟨⟨hk0, by omega⟩, ?_⟩
  refine wpAny_bind (wpAny_of_eq (a := some k0) rfl ?_)
  show wpAny _ _ (if Builtin.List.listTooLong k0.toNat = true then _ else _) _ _ _
  refine PySem.W.KFB.if_not (notLongL (by rw [sizeLine_eq]; omega)) (wpAny_pure ?_)
  have I5 := I4.tok (s4.toks + 1)
  have hne1 : q ≠ it := ne_of e3 e1 (fun z => nomatch z)
  have go : ∀ s5, Inv X pins σ H2 s5 → codeAny (model X.prog X.w) X.A.in1 (.builtin "list.extend.loop" ⟨[.ref q, .ref it, .none], []⟩) (wants (fun r s₂ => r = .none ∧ EP X pins σ Q (.ref q) s₂) X.xe) s5 := fun s5 I6 =>
    tit_loop (A1 := X.A.in1) (Rs := wants (fun r s₂ => r = .none ∧ EP X pins σ Q (.ref q) s₂) X.xe) (show X.A.in1.handled = none from hr.hd) ys.length 0 H2 s5 (by omega) (Nat.zero_le _) I6 e1 e2 (by rw [List.take_zero]; exact e3) hz fun H7 s7 I7 k7 e7 => ⟨rfl, .ref q, H7, I7, rfl, q2 H7 k7 e7⟩
  refine wpAny_ite_split (fun _ => ?_) (fun _ => wpAny_pure ⟨plainId_quiet PySem.F.plain_extend_loop _, go _ I5⟩)
  refine wpAny_bind (wpAny_rule (wpAny_bind ?_))
  show wpAny _ _ (updateSeq q (·.push .none) >>= fun _ => updateSeq q (·.pop)) _ _ _
  obtain ⟨z, its, n5, r5, hl5, e5⟩ := I5.lstM e3
  cases r5
  refine wpAny_bind (wpAny_updateSeq e5 rfl ?_)
  have I6 := I5.lset (f := (·.push Value.none)) (its' := [Value.none]) (ys := [.non]) (t' := s4.toks + 1) e3 e5 (by simp) (.cons rfl .nil) (by rw [List.length_singleton, sizeLine_eq]; decide)
  obtain ⟨z6, its6, n6, r6, hl6, e6⟩ := I6.lstM upd_same
  obtain ⟨u6, rfl, ru6⟩ := r6.one
  refine wpAny_updateSeq e6 rfl (wpAny_pure ⟨plainId_quiet PySem.F.plain_extend_loop _, go _ ?_⟩) (by show 1 ≤ sizeLine; rw [sizeLine_eq]; decide) (by show 0 ≤ sizeLine + 1; exact Nat.zero_le _)
  have I7 := I6.lset (f := (·.pop)) (its := [u6]) (its' := []) (ys := []) (t' := s4.toks + 1) upd_same e6 (by rfl) .nil (Nat.zero_le _)
  rw [upd_upd] at I7
  have hH : upd H2 q (.lst []) = H2 := by
    funext b
    by_cases hb : b = q
    · rw [hb, upd_same, e3]
    · rw [upd_ne hb]
  rw [hH] at I7
  exact I7
end
end
end My
set_option maxRecDepth 100000
set_option maxHeartbeats 2000000
namespace My
open PySem PySem.Spec PyProof.Rows L2
/-! ### enumerate(t), t a tuple -/
theorem enum_new1 {v : Value} {o : Obj} {G : Heap → Prop} (B : Begins v o G) :
    Meets (Builtin.«enumerate.__new__» ⟨[.type "enumerate", v], []⟩) (fun _ R s => G s.heap ∧
      R (.ok (.ret (.ref (s.heap.push o).objs.size))) { s with heap := (s.heap.push o).push { cls := .type "enumerate", data := .fields #[.none, .bool false, .ref s.heap.objs.size, rawInt 0, .none, .none] } }) := by
  refine .of_wp fun prog w A R s h => ?_
  obtain ⟨hp, g, d, tk, os⟩ := s
  obtain ⟨h1, h⟩ := h
  have hsub := sub_enumerate
  have goB : ∀ {A' : Around} {E Q : Value → Shared → Prop}, Q (.ref hp.objs.size) ⟨hp.push o, g, d, tk, os⟩ → wpAny (model prog w) A' (pyIter v) Q E ⟨hp, g, d, tk, os⟩ := fun q => B.iter prog w _ _ ⟨hp, g, d, tk, os⟩ _ h1 q
  wp_walk using goB
  refine wpAny_stack_any fun st => wpAny_pure ?_
  split
  · rename_i c _ _ _ _ _
    cases (c == Value.type "enumerate") <;> (wp_walk using goB; exact ⟨_, rfl, h⟩)
  · wp_walk using goB
    exact ⟨_, rfl, h⟩
theorem call_enum1 {prog : Program} {w : World} {A : Around} {E : Value → Shared → Prop} {s : Shared} {v : Value} {o : Obj} {G : Heap → Prop} {Q : Value → Shared → Prop} (B : Begins v o G) (h1 : G s.heap)
    (h : ∀ h', IsEnum h' (s.heap.objs.size + 1) s.heap.objs.size 0 .none → h'.get? s.heap.objs.size = some o → (∀ b o, s.heap.get? b = some o → h'.get? b = some o) → Q (.ref (s.heap.objs.size + 1)) { s with heap := h' }) :
    wpAny (model prog w) A (call (.type "enumerate") [v]) Q E s := by
  refine callType_new PySem.F.called_enumerate (by decide) (PySem.F.typeCall_enumerate_1 _) (PySem.F.newCall_enumerate_1 _) (fun obj => PySem.F.args_object_init_2 obj _) PySem.F.entry_enumerate_new (enum_new1 B) ⟨h1, ?_⟩
  have hz : (s.heap.push o).objs.size = s.heap.objs.size + 1 := Heap.size_push ..
  show _ ∧ _
  rw [hz]
  have he : IsEnum ((s.heap.push o).push { cls := .type "enumerate", data := .fields #[.none, .bool false, .ref s.heap.objs.size, rawInt 0, .none, .none] }) (s.heap.objs.size + 1) s.heap.objs.size 0 .none := by
    have q := Heap.get?_push_size (s.heap.push o) (o := { cls := .type "enumerate", data := .fields #[.none, .bool false, .ref s.heap.objs.size, rawInt 0, .none, .none] }) rfl
    rwa [hz] at q
  exact ⟨⟨_, he, rfl⟩, h _ he (Heap.get?_push_of_some _ (Heap.get?_push_size _ B.free)) fun b o x => Heap.get?_push_of_some _ (Heap.get?_push_of_some _ x)⟩
def IteT (K : PySem.W.Frag) (a : Addr) : It :=
  ⟨fun i H => ∃ (xs : List V) (x : V), SqT K H a xs ∧ xs[i]? = some x, fun i H v H' => ∃ T x, v = .ref T ∧ H T = none ∧ H' = upd H T (.tup [.int (i : Nat), x]) ∧ ∀ xs, SqT K H a xs → xs[i]? = some x, fun i H => ∃ xs : List V, SqT K H a xs ∧ xs.length ≤ i⟩
theorem turn_enumT {P : Program} {w : World} {K : PySem.W.Frag} {elts : List Expr} {kk : Nat} {tpos : Pos} (a e it : Addr) (hae : a ≠ e) (hai : a ≠ it) :
    Turn P w K (.Tuple elts kk tpos) (IteT K a) [e, it] e (fun i h => (∃ old, IsEnum h e it ((i : Nat) : Int) old) ∧ h.IsTupleIter it a i ∧ e ≠ it) where
  mem := by simp
  obj := fun i h st b hb => by
    obtain ⟨⟨old, he⟩, ⟨o, ho, hc, hd⟩, _⟩ := st
    have e' : b = e ∨ b = it := by simpa using hb
    rcases e' with z | z
    · rw [z]; exact ⟨_, he, fun v q => nomatch q⟩
    · rw [z]; exact ⟨o, ho, fun v q => by rw [hd] at q; cases q⟩
  keep := fun i h h' st k => let ⟨⟨old, he⟩, hi, hne⟩ := st; ⟨⟨old, k e (by simp) _ he⟩, hi.at fun o q => k it (by simp) o q, hne⟩
  item := by
    intro X hP hw hK hc i pins s σ H E I hf st hg
    subst hP hw hK
    obtain ⟨⟨old, he⟩, hit, hne⟩ := st
    obtain ⟨xs, x, hq, hx⟩ := hg
    obtain ⟨its, rv, p, hz⟩ := I.tuple hq
    obtain ⟨u, hu, ru⟩ := rv.get hx
    have hel : e < s.heap.objs.size := Heap.lt_size he
    have hil : it < s.heap.objs.size := by obtain ⟨_, q, _⟩ := hit; exact Heap.lt_size q
    have hlt : i < its.toArray.size := by rw [List.size_toArray]; exact (List.getElem?_eq_some_iff.mp hu).1
    refine wpAny_pyNext_enum_itemD (Draws.tuple (A := X.A.in1) (show X.A.in1.handled = none from I.ok.hd hc) it a hai its.toArray) he ⟨hit, p⟩ hlt hne (by simp [hne, Ne.symm hae]) fun x1 h' tk px ho st' hT hsz hk => ?_
    obtain ⟨hit', _⟩ := st'
    have ex1 : x1 = u := by
      rw [List.getElem?_toArray, hu] at px
      exact (Option.some.inj px).symm
    subst ex1
    refine ⟨_, rfl, wpAny_letOwnedTupleGo_enum (s := { s with heap := h', toks := tk + 1 }) ho fun h'' he' sb => ?_⟩
    have hT2 : h''.get? s.heap.objs.size = some { cls := .type "tuple", data := .seq #[.int i tk, x1] } := (sb.2 _ (Nat.ne_of_gt hel)).trans hT
    have new : ObjOk X.prog X.w (upd H s.heap.objs.size (.tup [.int (i : Nat), x])) h'' s.heap.objs.size (.tup [.int (i : Nat), x]) :=
      ⟨by show 2 ≤ sizeLine; decide, [.int i tk, x1], .cons ⟨_, rfl⟩ (.cons ru .nil), ⟨_, hT2, rfl, _, rfl⟩⟩
    have I1 : Inv X pins σ (upd H s.heap.objs.size (.tup [.int (i : Nat), x])) { s with heap := h'', toks := tk + 1 } :=
      I.turnedNew (ch := [e, it]) (fun b ob hb q => (sb.2 b (fun z => hb (by simp [z]))).trans (hk b ob (fun z => hb (by simp [z])) (fun z => hb (by simp [z])) q)) hf (Nat.le_refl _) new
    refine ⟨.ref s.heap.objs.size, _, I1, rfl, ⟨_, x, rfl, I.hok.fresh (Nat.le_refl _), rfl, fun ys hy => by rw [I.tuple_inj hy hq]; exact hx⟩, ⟨⟨x1, ?_⟩, hit'.at fun o q => (sb.2 it (Ne.symm hne)).trans q, hne⟩, fun b hb => ?_⟩
    · rw [show ((i + 1 : Nat) : Int) = (i : Int) + 1 by omega]; exact he'
    · have hb' : b < s.heap.objs.size := by
        rcases (by simpa using hb : b = e ∨ b = it) with z | z
        · rw [z]; exact hel
        · rw [z]; exact hil
      rw [upd_ne (Nat.ne_of_lt hb')]; exact (hf b hb).1
  done := by
    intro X hP hw hK hc i pins s σ H E I hf st hg
    subst hP hw hK
    obtain ⟨⟨old, he⟩, hit, hne⟩ := st
    obtain ⟨xs, hq, hx⟩ := hg
    obtain ⟨its, rv, p, hz⟩ := I.tuple hq
    obtain ⟨f0, f1, f2, f3, f4, f5⟩ := hf it (by simp)
    have hl := rv.length
    have hno : (its.toArray)[i]? = none := by rw [List.getElem?_toArray, List.getElem?_eq_none_iff]; omega
    have D : Draws X.prog X.w X.A.in1 it [it, a] i (fun _ _ => True) (fun j h => j = i ∧ h.IsTupleIter it a i ∧ h.IsTuple a its.toArray) :=
      ⟨fun _ _ st => ⟨_, st.2.1.choose_spec.1⟩, fun _ _ _ st hk => ⟨st.1, st.2.1.at fun o q => hk it (by simp) o q, st.2.2.at fun o q => hk a (by simp) o q⟩,
        fun j s Q E hj st _ => absurd st.1 (Nat.ne_of_lt hj), fun s Q E st hE => wpAny_nextOf_tuple_end (show X.A.in1.handled = none from I.ok.hd hc) st.2.1 st.2.2 hno hE⟩
    exact wpAny_pyNext_enum_endD D he ⟨rfl, hit, p⟩ fun h' eb => ⟨rfl, I.turned (t' := s.toks) (fun b o hb q => eb b o hb q) f0 f1 f3 f4 f5⟩
  self := fun A i s Q E st h => let ⟨⟨_, he⟩, _⟩ := st; wpAny_pyIter_enum he h
def iEnumT (K : PySem.W.Frag) (ta : TA) : TI := fun σ H R => ta σ H fun vs H1 => ∃ a xs, vs = [.ref a] ∧ SqT K H1 a xs ∧ R (IteT K a) H1
theorem pi_enumT {X : Cx} {e : Expr} {ta : TA} {p pos tpos : Pos} {elts : List Expr} {kk : Nat} (hg : Gl X "enumerate") (hm : X.mg "enumerate" = none) (ha : PA X [e] ta) (hs : starEach [e] X.env = [(false, eval e X.env)] := by rfl) :
    PI X (.Tuple elts kk tpos) (.Call (.Name "enumerate" p) [e] [] pos) (iEnumT X.K ta) := by
  refine ⟨fun pins s σ H R I h => ?_⟩
  refine Call_ (ld_blt I hg hm boot_enumerate (PyProof.Rows.callWith_type1 (thn (ha.run pos pins s σ H _ I h) fun us s1 ⟨vs, H1, I1, r1, a, xs, ex, hq, q⟩ => ?_) hs rfl))
  subst ex
  obtain rfl := Vals.ref1 r1
  obtain ⟨its, rv, p', hz⟩ := I1.tuple hq
  have hal : a < s1.heap.objs.size := by obtain ⟨_, z, _⟩ := p'; exact Heap.lt_size z
  refine call_enum1 (begins_tuple a its.toArray) (show s1.heap.IsTuple a its.toArray from p') fun h' he hit hk => wpAny_pyIter_enum he ?_
  have I2 : Inv X pins σ H1 { s1 with heap := h' } := I1.kept (t' := s1.toks) hk
  refine ⟨s1.heap.objs.size + 1, [s1.heap.objs.size + 1, s1.heap.objs.size], _, _, H1, rfl, I2, turn_enumT a (s1.heap.objs.size + 1) s1.heap.objs.size (Nat.ne_of_lt (Nat.lt_succ_of_lt hal)) (Nat.ne_of_lt hal), ⟨⟨.none, he⟩, ⟨_, hit, rfl, rfl⟩, Nat.succ_ne_self _⟩, fun b hb => ?_, q⟩
  have hle : s1.heap.objs.size ≤ b := by
    rcases (by simpa using hb : b = s1.heap.objs.size + 1 ∨ b = s1.heap.objs.size) with z | z
    · rw [z]; exact Nat.le_add_right _ _
    · rw [z]; exact Nat.le_refl _
  exact I1.fpOk hle (I1.hok.fresh hle)
theorem walk_enumT {K : PySem.W.Frag} {a : Addr} {xs : List V} : Walk (IteT K a) xs.length (fun H => SqT K H a xs) (YPair (fun i => some (.int (i : Nat))) (fun i => xs[i]?)) := by
  refine ⟨fun i _ hi q => ⟨xs, xs[i], q, by simp [hi]⟩, fun _ q => ⟨xs, q, Nat.le_refl _⟩, fun i H v H' _ q y => ?_⟩
  obtain ⟨T, x, h1, h2, h3, h4⟩ := y
  exact ⟨T, .int (i : Nat), x, h1, h2, h3, rfl, h4 xs q⟩
end My
set_option maxRecDepth 100000
namespace My
open PySem L2
section
variable {X : Cx}
/-- xs.count(y), flat items -/
def rCntF (K : PySem.W.Frag) : V → List V → Hp → VK → Prop := fun x xs H Q => ∃ (a : Addr) (ys : List V) (y : V), x = .ref a ∧ xs = [y] ∧ SqL K H a ys ∧ flatV y = true ∧ ys.all flatV = true ∧ Q (.int (ys.countP (fun z => eqV z y) : Nat)) H
theorem count_eqU {y : V} : ∀ {ys : List V} {us : List Value}, Vals ys us → ys.all flatV = true → us.countP (eqU y) = ys.countP (fun z => eqV z y)
  | _, _, .nil, _ => rfl
  | z :: ys, u :: us, .cons r t, f => by
    rw [List.all_cons, Bool.and_eq_true] at f
    rw [List.countP_cons, List.countP_cons, count_eqU t f.2, eqU_of r f.1]
theorem mt_fcount : MtR X "list.count" (rCntF X.K) := by
  intro pins s σ H x xs v us Q I rx rxs h
  obtain ⟨a, ys, y, rfl, rfl, hs, fy, fys, q⟩ := h
  cases rx
  cases rxs with
  | cons ry rt =>
    rename_i uy ut
    cases rt
    obtain ⟨its, rv, ⟨⟨cls, dd, data, sl⟩, n, ho, hc, hdn, hd⟩, hlen⟩ := I.list hs
    simp only at hc hd
    subst hc hd
    refine call_meets PySem.F.slot_list_count ⟨_, ho, rfl⟩ PySem.F.entry_list_count (PySem.F.args_list_count_2 _ _)
      (SeqAt.list_countAt a its.toArray n dd sl uy (eqU y)) ⟨ho, fun u' hu' => mem_eqAt ry fy rv fys u' (by simpa using hu'), ?_⟩
    have ec : its.toArray.toList.countP (eqU y) = ys.countP (fun z => eqV z y) := count_eqU rv fys
    refine ⟨.int (ys.countP (fun z => eqV z y) : Nat), H, I.tok _, ⟨s.toks, ?_⟩, q⟩
    rw [← ec]
end
end My
set_option maxRecDepth 100000
set_option maxHeartbeats 4000000
namespace My
open PySem L2
def top (i : Nat) : Stmt := PySem.Challenge.pw_unbrokenrows_k04_table_texts.main.body.getD i (.Pass ⟨0, 0, 0, 0⟩)
abbrev s_BadText_init : Stmt := inClass (top 7) 0
abbrev s_is_name : Stmt := top 10
abbrev s_first_bad_name : Stmt := top 11
abbrev s_first_stray : Stmt := top 12
abbrev s_check_columns : Stmt := top 14
abbrev s_check_rows : Stmt := top 15
abbrev s_Table_in_order : Stmt := inClass (top 16) 3
abbrev s_Table_init : Stmt := inClass (top 16) 2
abbrev s_Table_eq : Stmt := inClass (top 16) 21
abbrev s_table_text : Stmt := top 18
abbrev s_is_columns_line : Stmt := top 20
abbrev s_is_row_line : Stmt := top 21
abbrev s_read_table : Stmt := top 19
abbrev s_law_cell : Stmt := top 23
abbrev s_law_pool : Stmt := top 24
abbrev s_law_word : Stmt := top 25
abbrev s_law_new : Stmt := top 26
abbrev s_law_marks : Stmt := top 27
abbrev s_law_drawn : Stmt := top 28
abbrev s_law_written : Stmt := top 29
abbrev s_law_sign : Stmt := top 30
abbrev s_law_lines_edited : Stmt := top 31
abbrev s_law_edited : Stmt := top 32
abbrev s_law_different : Stmt := top 33
abbrev s_law_described : Stmt := top 34
abbrev s_law_is : Stmt := top 35
abbrev s_law_answers : Stmt := top 36
abbrev s_law_reads : Stmt := top 37
abbrev s_law : Stmt := top 38
theorem ss_BadText_init : SupScope ["self", "line"] ["self", "line"] (defScope s_BadText_init) := ⟨rfl, rfl, rfl, by decide +kernel, rfl, by decide +kernel, by decide +kernel, by decide +kernel, rfl, rfl⟩
theorem sc_is_name : FnScope ["text", "sign"] ["text"] (defScope s_is_name) := ⟨rfl, rfl, rfl, by decide +kernel, rfl, by decide +kernel, by decide +kernel⟩
theorem sc_first_bad_name : FnScope ["names", "index", "name"] ["names"] (defScope s_first_bad_name) := ⟨rfl, rfl, rfl, by decide +kernel, rfl, by decide +kernel, by decide +kernel⟩
theorem sc_first_stray : FnScope ["columns", "names", "index", "name"] ["columns", "names"] (defScope s_first_stray) := ⟨rfl, rfl, rfl, by decide +kernel, rfl, by decide +kernel, by decide +kernel⟩
theorem sc_check_columns : FnScope ["columns", "index"] ["columns"] (defScope s_check_columns) := ⟨rfl, rfl, rfl, by decide +kernel, rfl, by decide +kernel, by decide +kernel⟩
theorem sc_check_rows : FnScope ["columns", "rows", "index", "row"] ["columns", "rows"] (defScope s_check_rows) := ⟨rfl, rfl, rfl, by decide +kernel, rfl, by decide +kernel, by decide +kernel⟩
theorem sc_Table_in_order : FnScope ["self", "names", "name"] ["self", "names"] (defScope s_Table_in_order) := ⟨rfl, rfl, rfl, by decide +kernel, rfl, by decide +kernel, by decide +kernel⟩
theorem sc_Table_init : FnScope ["self", "columns", "rows", "row"] ["self", "columns", "rows"] (defScope s_Table_init) := ⟨rfl, rfl, rfl, by decide +kernel, rfl, by decide +kernel, by decide +kernel⟩
theorem sc_Table_eq : FnScope ["self", "other"] ["self", "other"] (defScope s_Table_eq) := ⟨rfl, rfl, rfl, by decide +kernel, rfl, by decide +kernel, by decide +kernel⟩
theorem sc_table_text : FnScope ["table", "lines", "row"] ["table"] (defScope s_table_text) := ⟨rfl, rfl, rfl, by decide +kernel, rfl, by decide +kernel, by decide +kernel⟩
theorem sc_is_columns_line : FnScope ["words", "names"] ["words"] (defScope s_is_columns_line) := ⟨rfl, rfl, rfl, by decide +kernel, rfl, by decide +kernel, by decide +kernel⟩
theorem sc_is_row_line : FnScope ["columns", "words"] ["columns", "words"] (defScope s_is_row_line) := ⟨rfl, rfl, rfl, by decide +kernel, rfl, by decide +kernel, by decide +kernel⟩
theorem sc_read_table : FnScope ["text", "lines", "columns", "number", "line", "words"] ["text"] (defScope s_read_table) := ⟨rfl, rfl, rfl, by decide +kernel, rfl, by decide +kernel, by decide +kernel⟩
theorem sc_law_cell : FnScope ["script", "k"] ["script", "k"] (defScope s_law_cell) := ⟨rfl, rfl, rfl, by decide +kernel, rfl, by decide +kernel, by decide +kernel⟩
theorem sc_law_pool : FnScope ["script", "k", "count", "value", "pool", "i", "first", "second", "third"] ["script", "k", "count"] (defScope s_law_pool) := ⟨rfl, rfl, rfl, by decide +kernel, rfl, by decide +kernel, by decide +kernel⟩
theorem sc_law_word : FnScope ["pool", "at", "code", "size", "word", "i"] ["pool", "at"] (defScope s_law_word) := ⟨rfl, rfl, rfl, by decide +kernel, rfl, by decide +kernel, by decide +kernel⟩
theorem sc_law_new : FnScope ["names", "word", "letters", "turn"] ["names", "word"] (defScope s_law_new) := ⟨rfl, rfl, rfl, by decide +kernel, rfl, by decide +kernel, by decide +kernel⟩
theorem sc_law_marks : FnScope ["columns", "pool", "at", "left", "bits", "name", "code", "row", "k", "pick"] ["columns", "pool", "at"] (defScope s_law_marks) := ⟨rfl, rfl, rfl, by decide +kernel, rfl, by decide +kernel, by decide +kernel⟩
theorem sc_law_drawn : FnScope ["script", "pool", "lows", "size", "columns", "k", "word", "rows", "base", "i"] ["script"] (defScope s_law_drawn) := ⟨rfl, rfl, rfl, by decide +kernel, rfl, by decide +kernel, by decide +kernel⟩
theorem sc_law_written : FnScope ["columns", "rows", "lines", "row"] ["columns", "rows"] (defScope s_law_written) := ⟨rfl, rfl, rfl, by decide +kernel, rfl, by decide +kernel, by decide +kernel⟩
theorem sc_law_sign : FnScope ["draw", "signs"] ["draw"] (defScope s_law_sign) := ⟨rfl, rfl, rfl, by decide +kernel, rfl, by decide +kernel, by decide +kernel⟩
theorem sc_law_lines_edited : FnScope ["lines", "way", "pool", "at", "k", "j", "words", "cut", "mixed", "turn"] ["lines", "way", "pool", "at"] (defScope s_law_lines_edited) := ⟨rfl, rfl, rfl, by decide +kernel, rfl, by decide +kernel, by decide +kernel⟩
theorem sc_law_edited : FnScope ["text", "pool", "at", "way", "k"] ["text", "pool", "at"] (defScope s_law_edited) := ⟨rfl, rfl, rfl, by decide +kernel, rfl, by decide +kernel, by decide +kernel⟩
theorem sc_law_different : FnScope ["words", "known", "word"] ["words", "known"] (defScope s_law_different) := ⟨rfl, rfl, rfl, by decide +kernel, rfl, by decide +kernel, by decide +kernel⟩
theorem sc_law_described : FnScope ["text", "lines", "columns", "good", "rows", "k", "words", "word"] ["text"] (defScope s_law_described) := ⟨rfl, rfl, rfl, by decide +kernel, rfl, by decide +kernel, by decide +kernel⟩
theorem sc_law_is : FnScope ["found", "columns", "rows", "i", "name"] ["found", "columns", "rows"] (defScope s_law_is) := ⟨rfl, rfl, rfl, by decide +kernel, rfl, by decide +kernel, by decide +kernel⟩
theorem sc_law_answers : FnScope ["text", "due", "found", "told", "kinds", "e"] ["text"] (defScope s_law_answers) := ⟨rfl, rfl, rfl, by decide +kernel, rfl, by decide +kernel, by decide +kernel⟩
theorem sc_law_reads : FnScope ["text", "columns", "rows"] ["text", "columns", "rows"] (defScope s_law_reads) := ⟨rfl, rfl, rfl, by decide +kernel, rfl, by decide +kernel, by decide +kernel⟩
theorem sc_law : FnScope ["script", "made", "columns", "rows", "edits", "table", "text", "told", "other", "spoiled", "wrong", "row", "name"] ["script"] (defScope s_law) := ⟨rfl, rfl, rfl, by decide +kernel, rfl, by decide +kernel, by decide +kernel⟩
theorem hu10 {A : Around} {k : Nat} (hr : Room k A) : A.units + 10 < cLine := by have := hr.un; omega
/-- text * int -/
theorem op_mulS {X : Cx} : OpR X (binaryOp .Mult) (fun x y H Q => ∃ (z : Str) (n : Int), x = .str z ∧ y = .int n ∧ MulOk z n ∧ Q (.str (Txt.mul z n)) H) := by
  intro pins s σ H x y v u Q I rx ry h
  obtain ⟨z, n, rfl, rfl, ok, q⟩ := h
  obtain ⟨t, rfl⟩ := rx
  obtain ⟨t', rfl⟩ := ry
  exact PySem.SB.mul ok fun t' k => ⟨.str (Txt.mul z n), H, I.tok _, ⟨_, rfl⟩, q⟩
def rLen2 (K : PySem.W.Frag) : List V → Hp → VK → Prop := fun xs H Q => ∃ p ys, xs = [.ref p] ∧ (SqL K H p ys ∨ SqT K H p ys) ∧ Q (.int ys.length) H
def rListOf (K : PySem.W.Frag) : List V → Hp → VK → Prop := fun xs H Q => ∃ p ys, xs = [.ref p] ∧ (SqL K H p ys ∨ SqT K H p ys) ∧ ∀ l, H l = none → Q (.ref l) (upd H l (.lst ys))
def rTupOf (K : PySem.W.Frag) : List V → Hp → VK → Prop := fun xs H Q => ∃ p ys, xs = [.ref p] ∧ ((SqL K H p ys ∧ ∀ l, H l = none → Q (.ref l) (upd H l (.tup ys))) ∨ (SqT K H p ys ∧ Q (.ref p) H))
/-! ### texts in lists -/
abbrev sv (ss : List Str) : List V := ss.map V.str
theorem len_sv (ss : List Str) : (sv ss).length = ss.length := List.length_map ..
theorem flat_sv (ss : List Str) : (sv ss).all flatV = true := by
  rw [List.all_eq_true]; intro x hx; obtain ⟨s, _, rfl⟩ := List.mem_map.mp hx; rfl
theorem eqV_str (a b : Str) : eqV (.str a) (.str b) = decide (a = b) := by
  first | rfl | (simp only [eqV]; by_cases h : a = b <;> simp [h])
theorem inV_str (x : Str) (ss : List Str) : inV (.str x) (sv ss) = decide (x ∈ ss) := by
  unfold inV
  rw [Bool.eq_iff_iff, List.any_eq_true, decide_eq_true_iff]
  constructor
  · rintro ⟨y, hy, e⟩
    obtain ⟨s, hs, rfl⟩ := List.mem_map.mp hy
    rw [eqV_str, decide_eq_true_iff] at e
    rw [← e]; exact hs
  · intro h
    exact ⟨.str x, List.mem_map.mpr ⟨x, h, rfl⟩, by rw [eqV_str]; simp⟩
theorem sv_get {ss : List Str} {i : Nat} {v : V} (h : (sv ss)[i]? = some v) : ∃ s, ss[i]? = some s ∧ v = .str s := by
  rw [List.getElem?_map] at h
  cases e : ss[i]? with
  | none => rw [e] at h; cases h
  | some t => rw [e] at h; exact ⟨t, rfl, (Option.some.inj h).symm⟩
theorem cut_take {xs : List V} {k : Nat} (h : k ≤ xs.length) : cutV xs none (some (k : Int)) = xs.take k := by
  unfold cutV
  rw [HT.sIx_none, HT.sIx_nat, Nat.min_eq_left h]
  simp
theorem cut_drop {xs : List V} {k : Nat} (h : k ≤ xs.length) : cutV xs (some (k : Int)) none = xs.drop k := by
  unfold cutV
  rw [HT.sIx_none, HT.sIx_nat, Nat.min_eq_left h]
  rw [List.take_of_length_le (by rw [List.length_drop]; exact Nat.le_refl _)]
theorem sv_take (ss : List Str) (k : Nat) : (sv ss).take k = sv (ss.take k) := List.map_take.symm
theorem sv_drop (ss : List Str) (k : Nat) : (sv ss).drop k = sv (ss.drop k) := List.map_drop.symm
/-! ### names -/
def Letters (l : List Nat) : Prop := ∀ c ∈ l, 97 ≤ c ∧ c ≤ 122
structure Good (z : Str) : Prop where
  pos : 1 ≤ z.length
  le : z.length ≤ 8
  let_ : Letters z.cps.toList
/-! ### the first stray of a list -/
def badAt (cs ns : List Str) (i : Nat) : Bool := match ns[i]? with | some x => !decide (x ∈ cs) || decide (x ∈ ns.take i) | none => false
def stray (cs ns : List Str) : Option Nat := (List.range ns.length).find? (badAt cs ns)
def fault (cs ns : List Str) : Option Nat := match stray cs ns with | some i => some i | none => if ns.length < cs.length then some ns.length else none
def optV : Option Nat → V
  | none => .non
  | some i => .int (i : Nat)
theorem stray_some {cs ns : List Str} {i : Nat} (hi : i < ns.length) (h1 : badAt cs ns i = true) (h2 : ∀ j, j < i → badAt cs ns j = false) : stray cs ns = some i := by
  unfold stray
  rw [List.find?_range_eq_some]
  exact ⟨h1, List.mem_range.mpr hi, fun j hj => by rw [h2 j hj]; rfl⟩
theorem stray_none {cs ns : List Str} (h2 : ∀ j, j < ns.length → badAt cs ns j = false) : stray cs ns = none := by
  unfold stray
  rw [List.find?_eq_none]
  intro j hj
  rw [h2 j (List.mem_range.mp hj)]
  exact Bool.false_ne_true
theorem stray_none_iff {cs ns : List Str} : stray cs ns = none ↔ (∀ x ∈ ns, x ∈ cs) ∧ ns.Nodup := by
  unfold stray
  rw [List.find?_eq_none]
  constructor
  · intro h
    have hb : ∀ i (hi : i < ns.length), ns[i] ∈ cs ∧ ns[i] ∉ ns.take i := fun i hi => by
      have := h i (List.mem_range.mpr hi)
      unfold badAt at this
      rw [List.getElem?_eq_getElem hi] at this
      simpa using this
    refine ⟨fun x hx => ?_, ?_⟩
    · obtain ⟨i, hi, rfl⟩ := List.getElem_of_mem hx
      exact (hb i hi).1
    · rw [List.nodup_iff_pairwise_ne, List.pairwise_iff_getElem]
      intro i j hi hj hij e
      refine (hb j hj).2 ?_
      rw [← e]
      exact List.mem_take_iff_getElem.mpr ⟨i, by omega, rfl⟩
  · rintro ⟨h1, h2⟩ i hi
    have hi := List.mem_range.mp hi
    unfold badAt
    rw [List.getElem?_eq_getElem hi]
    have a := h1 _ (List.getElem_mem hi)
    have b : ns[i] ∉ ns.take i := fun hm => by
      obtain ⟨j, hj, e⟩ := List.mem_take_iff_getElem.mp hm
      rw [List.nodup_iff_pairwise_ne, List.pairwise_iff_getElem] at h2
      exact h2 j i (by omega) hi (by omega) e
    simp [a, b]
theorem fault_none {cs ns : List Str} (h1 : ∀ x ∈ ns, x ∈ cs) (h2 : ns.Nodup) (h3 : cs.length ≤ ns.length) : fault cs ns = none := by
  unfold fault
  rw [stray_none_iff.mpr ⟨h1, h2⟩]
  show (if ns.length < cs.length then _ else _) = _
  rw [if_neg (by omega)]
/-- the law's list of what is wrong -/
def wrongs (cs ns : List Str) : List Nat := (List.range ns.length).filter (badAt cs ns) ++ if ns.length < cs.length then [ns.length] else []
theorem wrongs_head (cs ns : List Str) : (wrongs cs ns).head? = fault cs ns := by
  unfold wrongs fault stray
  rw [List.head?_append, List.head?_filter]
  cases (List.range ns.length).find? (badAt cs ns) with
  | some i => rfl
  | none =>
    show Option.or none _ = (if _ then _ else _)
    split <;> rfl
/-! ### runs -/
def runAt (fl : List Bool) (i : Nat) : Bool := fl.getD i false && !(decide (0 < i) && fl.getD (i - 1) false)
def runs (fl : List Bool) : Nat := ((List.range fl.length).filter (runAt fl)).length
theorem runs_le (fl : List Bool) : runs fl ≤ fl.length := by
  unfold runs
  have := List.length_filter_le (runAt fl) (List.range fl.length)
  rw [List.length_range] at this
  exact this
/-! ### the picture -/
theorem mul_len (n : Int) : (Txt.mul (" " : Str) n).length = n.toNat := by
  unfold Txt.mul
  have h1 : ((" " : Str).length == 0) = false := by decide
  split
  · rename_i h
    show 0 = n.toNat
    omega
  · rename_i h
    split
    · rename_i h'
      rw [h1, Bool.or_false, beq_iff_eq] at h'
      subst h'
      rfl
    · have e : ∀ (m : Nat) (acc : Array Nat), ((List.replicate m (" " : Str).cps).foldl (· ++ ·) acc).size = acc.size + m := by
        intro m
        induction m with
        | zero => intro acc; rfl
        | succ m ih =>
          intro acc
          rw [List.replicate_succ, List.foldl_cons, ih, Array.size_append]
          have : (" " : Str).cps.size = 1 := by decide
          rw [this]; omega
      show ((List.replicate n.toNat (" " : Str).cps).foldl (· ++ ·) #[]).size = n.toNat
      rw [e]
      show 0 + n.toNat = _
      omega
theorem mul_cps (n : Int) : (Txt.mul (" " : Str) n).cps = Array.replicate n.toNat 32 := by
  unfold Txt.mul
  have h1 : ((" " : Str).length == 0) = false := by decide
  split
  · rename_i h
    have : n.toNat = 0 := by omega
    rw [this]
    rfl
  · rename_i h
    split
    · rename_i h'
      rw [h1, Bool.or_false, beq_iff_eq] at h'
      subst h'
      decide
    · have e : ∀ (m : Nat) (acc : Array Nat), ((List.replicate m (" " : Str).cps).foldl (· ++ ·) acc) = acc ++ Array.replicate m 32 := by
        intro m
        induction m with
        | zero => intro acc; simp
        | succ m ih =>
          intro acc
          rw [List.replicate_succ, List.foldl_cons, ih]
          have : (" " : Str).cps = #[32] := by decide
          rw [this, Array.append_assoc]
          congr 1
          apply Array.toList_inj.mp
          simp [List.replicate_succ]
      show ((List.replicate n.toNat (" " : Str).cps).foldl (· ++ ·) #[]) = _
      rw [e]
      simp
theorem str_ext {a b : Str} (h : a.cps = b.cps) : a = b := by cases a; cases b; exact congrArg Str.mk h
theorem append_cps (a b : Str) : (a ++ b).cps = a.cps ++ b.cps := rfl
theorem ljust_eq (x : Str) (W : Int) : Txt.ljust x W = x ++ Txt.mul " " (W - x.length) := by
  apply str_ext
  rw [append_cps, mul_cps]
  unfold Txt.ljust
  split
  · rename_i h
    have : (W - (x.length : Int)).toNat = 0 := by omega
    rw [this]; simp
  · rename_i h
    have : W.toNat - x.length = (W - (x.length : Int)).toNat := by omega
    rw [this]
    show Array.replicate 0 32 ++ x.cps ++ Array.replicate _ 32 = _
    simp
theorem ljust_len (x : Str) (W : Int) : (Txt.ljust x W).length = x.length + (W - x.length).toNat := by
  rw [ljust_eq, Str.length_append, mul_len]
def fill (ws : List Str) (W : Int) : Str := Txt.join " " (ws.map fun x => Txt.ljust x W)
def marks (order row : List Str) : List Str := order.map fun x => if x ∈ row then ("x" : Str) else "."
def flags (order row : List Str) : List Bool := order.map fun x => decide (x ∈ row)
def num4 (n : Nat) : Str := Txt.rjust (Str.ofString (toString (n : Int))) 4
def line (order : List Str) (W : Int) (row : List Str) : Str := fill (marks order row) W ++ num4 (runs (flags order row))
def pic (order : List Str) (rows : List (List Str)) (W : Int) : Str := Txt.join "\n" (fill order W :: rows.map (line order W))
theorem num_small : ∀ n : Fin 13, (Str.ofString (toString ((n.val : Nat) : Int))).length ≤ 4 := by decide +kernel
theorem num4_len {n : Nat} (h : n ≤ 12) : (num4 n).length = 4 := by
  have hl : (Str.ofString (toString (n : Int))).length ≤ 4 := num_small ⟨n, by omega⟩
  unfold num4 Txt.rjust
  generalize Str.ofString (toString (n : Int)) = x at hl ⊢
  split
  · rename_i h4; omega
  · show (Array.replicate _ 32 ++ x.cps ++ Array.replicate 0 32).size = 4
    simp
    show (4 : Int).toNat - x.length + x.length = 4
    omega
theorem cut4 {s : Str} (h : s.length ≤ 4) : cutS (("    " : Str) ++ s) (some (-4)) none = Txt.rjust s 4 := by
  apply str_ext
  unfold cutS Txt.rjust
  have hl : (("    " : Str) ++ s).length = 4 + s.length := by rw [Str.length_append]; rfl
  have h1 : HT.sIx (("    " : Str) ++ s).length 0 (some (-4)) = s.length := by
    rw [hl]
    show (if (-4 : Int) < 0 then ((-4 : Int) + ((4 + s.length : Nat) : Int)).toNat else min (-4 : Int).toNat (4 + s.length)) = s.length
    rw [if_pos (by decide)]; omega
  rw [h1, HT.sIx_none, hl]
  have e4 : (("    " : Str)).cps.toList = List.replicate 4 32 := by decide
  apply Array.toList_inj.mp
  rw [append_cps, Array.toList_append, e4]
  have h5 : 4 + s.length - s.length = 4 := by omega
  rw [h5]
  have hs : s.cps.toList.length = s.length := by simp [Str.length]
  have e6 : (List.replicate 4 32 ++ s.cps.toList).drop s.length = List.replicate (4 - s.length) 32 ++ s.cps.toList := by
    rw [List.drop_append_of_le_length (by simp; exact h), List.drop_replicate]
  rw [e6, List.take_of_length_le (by rw [List.length_append, List.length_replicate, hs]; omega)]
  split
  · rename_i h4
    have : 4 - s.length = 0 := by omega
    rw [this]; rfl
  · show _ = (Array.replicate ((4 : Int).toNat - s.length) 32 ++ s.cps ++ Array.replicate 0 32).toList
    simp
/-! ### lengths -/
theorem sum_le {ys : List Nat} {B : Nat} (h : ∀ y ∈ ys, y ≤ B) : ys.sum ≤ ys.length * B := by
  induction ys with
  | nil => simp
  | cons y r ih =>
    have h1 := h y List.mem_cons_self
    have h2 := ih fun x hx => h x (List.mem_cons_of_mem _ hx)
    rw [List.sum_cons, List.length_cons, Nat.succ_mul]
    omega
theorem join_len (a : Str) : ∀ ys : List Str, (Txt.join a ys).length ≤ (ys.map (·.length)).sum + ys.length * a.length
  | [] => by
    show (Txt.join a []).length ≤ 0 + 0 * a.length
    have : (Txt.join a []).length = 0 := rfl
    omega
  | [x] => by
    have : Txt.join a [x] = x := by rw [TL.join_eq]; rfl
    rw [this]
    simp
  | x :: y :: r => by
    have e : Txt.join a (x :: y :: r) = x ++ a ++ Txt.join a (y :: r) := by rw [TL.join_eq, TL.join_eq]; rfl
    have ih := join_len a (y :: r)
    rw [e, Str.length_append, Str.length_append, List.map_cons, List.sum_cons, List.length_cons, Nat.succ_mul]
    omega
theorem fits_join {a : Str} {ys : List Str} {B n : Nat} (h : ∀ y ∈ ys, y.length ≤ B) (hn : ys.length ≤ n) (hs : n * (B + a.length) ≤ 16777216) : (ys.map (·.length)).sum + ys.length * a.length ≤ 16777216 ∧ (Txt.join a ys).length ≤ n * (B + a.length) := by
  have h1 : (ys.map (·.length)).sum ≤ (ys.map (·.length)).length * B := sum_le fun y hy => by
    obtain ⟨z, hz, rfl⟩ := List.mem_map.mp hy
    exact h z hz
  rw [List.length_map] at h1
  have h2 := join_len a ys
  have h3 : ys.length * (B + a.length) ≤ n * (B + a.length) := Nat.mul_le_mul_right _ hn
  rw [Nat.mul_add] at h3
  omega
end My
set_option maxRecDepth 100000
set_option maxHeartbeats 4000000
namespace My
open PySem L2
/-! ### names, in general -/
def okName (z : Str) : Bool := decide (1 ≤ z.length) && (decide (z.length ≤ 8) && z.cps.toList.all fun c => decide (97 ≤ c ∧ c ≤ 122))
theorem okName_iff {z : Str} : okName z = true ↔ Good z := by
  unfold okName
  rw [Bool.and_eq_true, Bool.and_eq_true, decide_eq_true_iff, decide_eq_true_iff, List.all_eq_true]
  exact ⟨fun ⟨a, b, c⟩ => ⟨a, b, fun x hx => of_decide_eq_true (c x hx)⟩, fun h => ⟨h.pos, h.le, fun x hx => decide_eq_true (h.let_ x hx)⟩⟩
def badName (ns : List Str) (i : Nat) : Bool := match ns[i]? with | some x => !okName x || decide (x ∈ ns.take i) | none => false
def firstBad (ns : List Str) : Option Nat := (List.range ns.length).find? (badName ns)
theorem firstBad_some {ns : List Str} {i : Nat} (hi : i < ns.length) (h1 : badName ns i = true) (h2 : ∀ j, j < i → badName ns j = false) : firstBad ns = some i := by
  unfold firstBad
  rw [List.find?_range_eq_some]
  exact ⟨h1, List.mem_range.mpr hi, fun j hj => by rw [h2 j hj]; rfl⟩
theorem firstBad_none {ns : List Str} (h2 : ∀ j, j < ns.length → badName ns j = false) : firstBad ns = none := by
  unfold firstBad
  rw [List.find?_eq_none]
  intro j hj
  rw [h2 j (List.mem_range.mp hj)]
  exact Bool.false_ne_true
theorem firstBad_none_iff {ns : List Str} : firstBad ns = none ↔ (∀ x ∈ ns, Good x) ∧ ns.Nodup := by
  unfold firstBad
  rw [List.find?_eq_none]
  constructor
  · intro h
    have hb : ∀ i (hi : i < ns.length), Good ns[i] ∧ ns[i] ∉ ns.take i := fun i hi => by
      have := h i (List.mem_range.mpr hi)
      unfold badName at this
      rw [List.getElem?_eq_getElem hi] at this
      simp at this
      exact ⟨okName_iff.mp this.1, this.2⟩
    refine ⟨fun x hx => ?_, ?_⟩
    · obtain ⟨i, hi, rfl⟩ := List.getElem_of_mem hx
      exact (hb i hi).1
    · rw [List.nodup_iff_pairwise_ne, List.pairwise_iff_getElem]
      intro i j hi hj hij e
      refine (hb j hj).2 ?_
      rw [← e]
      exact List.mem_take_iff_getElem.mpr ⟨i, by omega, rfl⟩
  · rintro ⟨h1, h2⟩ i hi
    have hi := List.mem_range.mp hi
    unfold badName
    rw [List.getElem?_eq_getElem hi]
    have a := okName_iff.mpr (h1 _ (List.getElem_mem hi))
    have b : ns[i] ∉ ns.take i := fun hm => by
      obtain ⟨j, hj, e⟩ := List.mem_take_iff_getElem.mp hm
      rw [List.nodup_iff_pairwise_ne, List.pairwise_iff_getElem] at h2
      exact h2 j i (by omega) hi (by omega) e
    simp [a, b]
/-! ### what a text describes -/
abbrev Wd1 (w : List Str) (x : Str) : Prop := w[0]? = some x
def ColsOk (w : List Str) : Prop := w[0]? = some ("columns" : Str) ∧ w.tail.length ≤ 12 ∧ (∀ x ∈ w.tail, Good x) ∧ w.tail.Nodup
def RowOk (cs w : List Str) : Prop := w[0]? = some ("row" : Str) ∧ (∀ x ∈ w.tail, x ∈ cs) ∧ w.tail.Nodup
/-- line k is wrong for the columns cs -/
def BadLn (cs : List Str) (ls : List (List Str)) (k : Nat) : Prop := 48 < k ∨ ∃ w, ls[k]? = some w ∧ ¬ RowOk cs w
structure Told (ls : List (List Str)) (o : Option Nat) : Prop where
  z : o = some 0 → ∃ w, ls[0]? = some w ∧ ¬ ColsOk w
  c : o ≠ some 0 → ∃ w, ls[0]? = some w ∧ ColsOk w
  k : ∀ k, o = some k → 0 < k → k < ls.length ∧ BadLn (ls.headD []).tail ls k
  l : ∀ i, 0 < i → i < ls.length → (∀ k, o = some k → i < k) → o ≠ some 0 → ¬ BadLn (ls.headD []).tail ls i
theorem Told.uniq {ls : List (List Str)} {a b : Option Nat} (h : Told ls a) (h' : Told ls b) : a = b := by
  by_cases ha : a = some 0
  · by_cases hb : b = some 0
    · rw [ha, hb]
    · obtain ⟨w, e, n⟩ := h.z ha
      obtain ⟨w', e', y⟩ := h'.c hb
      rw [e] at e'; cases e'
      exact absurd y n
  · by_cases hb : b = some 0
    · obtain ⟨w, e, n⟩ := h'.z hb
      obtain ⟨w', e', y⟩ := h.c ha
      rw [e] at e'; cases e'
      exact absurd y n
    · have key : ∀ {a b : Option Nat}, Told ls a → Told ls b → a ≠ some 0 → b ≠ some 0 → ∀ k, a = some k → ∃ m, b = some m ∧ m ≤ k := fun {a b} h h' ha hb k e => by
        have k0 : 0 < k := Nat.pos_of_ne_zero fun z => ha (by rw [e, z])
        obtain ⟨kl, kb⟩ := h.k k e k0
        cases b with
        | none => exact absurd kb (h'.l k k0 kl (fun m z => nomatch z) hb)
        | some m =>
          refine ⟨m, rfl, Nat.le_of_not_lt fun z => absurd kb (h'.l k k0 kl (fun m' z' => by cases z'; exact z) hb)⟩
      cases a with
      | none =>
        cases b with
        | none => rfl
        | some m => obtain ⟨x, e, _⟩ := key h' h hb ha m rfl; cases e
      | some k =>
        obtain ⟨m, rfl, l1⟩ := key h h' ha hb k rfl
        obtain ⟨k', e, l2⟩ := key h' h hb ha m rfl
        cases e
        rw [Nat.le_antisymm l1 l2]
theorem told_ex (ls : List (List Str)) (h0 : 0 < ls.length) : ∃ o, Told ls o := by
  classical
  by_cases hc : ColsOk ls[0]
  · have hw : ls[0]? = some ls[0] := List.getElem?_eq_getElem h0
    by_cases hb : ∃ k, 0 < k ∧ k < ls.length ∧ BadLn (ls.headD []).tail ls k
    · have hmin : ∃ k, (0 < k ∧ k < ls.length ∧ BadLn (ls.headD []).tail ls k) ∧ ∀ i, i < k → ¬ (0 < i ∧ i < ls.length ∧ BadLn (ls.headD []).tail ls i) := by
        obtain ⟨k, hk⟩ := hb
        induction k using Nat.strongRecOn with
        | _ k ih =>
          by_cases hi : ∃ i, i < k ∧ (0 < i ∧ i < ls.length ∧ BadLn (ls.headD []).tail ls i)
          · obtain ⟨i, hik, hh⟩ := hi
            exact ih i hik hh
          · exact ⟨k, hk, fun i hi' hh => hi ⟨i, hi', hh⟩⟩
      obtain ⟨k, ⟨k0, kl, kb⟩, km⟩ := hmin
      exact ⟨some k, ⟨fun z => (by cases z; omega), fun _ => ⟨_, hw, hc⟩, fun m e _ => (by cases e; exact ⟨kl, kb⟩), fun i i0 il hlt _ hbad => km i (hlt k rfl) ⟨i0, il, hbad⟩⟩⟩
    · exact ⟨none, ⟨fun z => (nomatch z), fun _ => ⟨_, hw, hc⟩, fun m e => (nomatch e), fun i i0 il _ _ hbad => hb ⟨i, i0, il, hbad⟩⟩⟩
  · exact ⟨some 0, ⟨fun _ => ⟨_, List.getElem?_eq_getElem h0, hc⟩, fun z => absurd rfl z, fun k e k0 => (by cases e; omega), fun i i0 il hlt z => absurd rfl z⟩⟩
/-! ### texts in lines and words -/
def lns (T : Str) : List (List Str) := (Txt.split T "\n").map fun l => Txt.split l " "
def wrL (cs : List Str) (rs : List (List Str)) : List Str := Txt.join " " ("columns" :: cs) :: rs.map fun r => Txt.join " " ("row" :: r)
def wr (cs : List Str) (rs : List (List Str)) : Str := Txt.join "\n" (wrL cs rs)
theorem tl_nl : TL.tl ("\n" : Str) = [10] := by decide
theorem tl_sp : TL.tl (" " : Str) = [32] := by decide
theorem mem_joinL {s : List Nat} {c : Nat} : ∀ {ps : List (List Nat)}, c ∈ TL.joinL s ps → c ∈ s ∨ ∃ p ∈ ps, c ∈ p
  | [], h => by cases h
  | [p], h => .inr ⟨p, List.mem_singleton.mpr rfl, h⟩
  | p :: q :: r, h => by
    have h : c ∈ p ++ (s ++ TL.joinL s (q :: r)) := h
    rcases List.mem_append.mp h with h | h
    · exact .inr ⟨p, List.mem_cons_self, h⟩
    · rcases List.mem_append.mp h with h | h
      · exact .inl h
      · rcases mem_joinL h with h | ⟨x, hx, h⟩
        · exact .inl h
        · exact .inr ⟨x, List.mem_cons_of_mem _ hx, h⟩
theorem good_no {z : Str} (g : Good z) {c : Nat} (hc : c < 97) : c ∉ TL.tl z := fun h => by
  have := g.let_ c h
  omega
theorem nl_words {ws : List Str} (g : ∀ z ∈ ws, Good z) : 10 ∉ TL.tl (Txt.join " " ws) := fun h => by
  rw [TL.join_eq, TL.tl_join] at h
  rcases mem_joinL h with h | ⟨p, hp, h⟩
  · rw [tl_sp] at h; revert h; decide
  · obtain ⟨z, hz, rfl⟩ := List.mem_map.mp hp
    exact good_no (g z hz) (by decide) h
theorem good_row : Good "row" := ⟨by decide, by decide, by unfold Letters; decide⟩
theorem good_columns : Good "columns" := ⟨by decide, by decide, by unfold Letters; decide⟩
theorem split_words {ws : List Str} (hne : ws ≠ []) (g : ∀ z ∈ ws, Good z) : Txt.split (Txt.join " " ws) " " = ws :=
  TL.split_join (s := 32) (S := []) tl_sp (by decide +kernel) hne fun p hp => good_no (g p hp) (by decide)
theorem good_cons {x : Str} {ws : List Str} (hx : Good x) (g : ∀ z ∈ ws, Good z) : ∀ z ∈ x :: ws, Good z := fun z hz => by
  rcases List.mem_cons.mp hz with rfl | hz
  · exact hx
  · exact g z hz
theorem lns_wr {cs : List Str} {rs : List (List Str)} (hc : ∀ z ∈ cs, Good z) (hr : ∀ r ∈ rs, ∀ z ∈ r, Good z) : lns (wr cs rs) = (("columns" : Str) :: cs) :: rs.map fun r => ("row" : Str) :: r := by
  unfold lns wr
  rw [TL.split_join (s := 10) (S := []) tl_nl (by decide +kernel) (by unfold wrL; simp) (fun p hp => ?_)]
  · unfold wrL
    rw [List.map_cons, split_words (by simp) (good_cons good_columns hc), List.map_map]
    congr 1
    exact List.map_congr_left fun r hr' => split_words (by simp) (good_cons good_row (hr r hr'))
  · unfold wrL at hp
    rcases List.mem_cons.mp hp with rfl | hp
    · exact nl_words (good_cons good_columns hc)
    · obtain ⟨r, hr', rfl⟩ := List.mem_map.mp hp
      exact nl_words (good_cons good_row (hr r hr'))
theorem join_ge (y : Str) : ∀ ps : List Str, (ps.map (·.length)).sum + ps.length * y.length ≤ (Str.join y ps).length + y.length
  | [] => by simp
  | [p] => by
    show p.length + 0 + (0 + 1) * y.length ≤ p.length + y.length
    omega
  | p :: q :: r => by
    have ih := join_ge y (q :: r)
    show (p.length + ((q :: r).map (·.length)).sum) + ((q :: r).length + 1) * y.length ≤ (p ++ y ++ Str.join y (q :: r)).length + y.length
    rw [Str.length_append, Str.length_append, Nat.succ_mul]
    omega
theorem split_len (T : Str) {y : Str} (hy : y.length = 1) : ((Txt.split T y).map (·.length)).sum + (Txt.split T y).length ≤ T.length + 1 := by
  have h := join_ge y (Txt.split T y)
  rw [StrLaws.join_split, hy, Nat.mul_one] at h
  exact h
theorem split_ne (T y : Str) : 0 < (Txt.split T y).length := by
  unfold Txt.split
  split
  · simp
  · split
    · simp
    · rw [StrLaws.partsBetween_eq]
      obtain ⟨p, q, e⟩ := StrLaws.partsFrom_ne T y.length 0 (Builtin.Str.occurrences T y 0 T.length (T.length + 1))
      rw [e]; simp
theorem sum_ge {ys : List Nat} {y : Nat} (h : y ∈ ys) : y ≤ ys.sum := by
  induction ys with
  | nil => cases h
  | cons a t ih =>
    rw [List.sum_cons]
    rcases List.mem_cons.mp h with rfl | h
    · omega
    · have := ih h; omega
theorem piece_len {T y p : Str} (hy : y.length = 1) (h : p ∈ Txt.split T y) : p.length ≤ T.length := by
  have h1 := split_len T hy
  have h2 := split_ne T y
  have := sum_ge (List.mem_map.mpr ⟨p, h, rfl⟩ : p.length ∈ (Txt.split T y).map (·.length))
  omega
theorem pieces_len {T y : Str} (hy : y.length = 1) : (Txt.split T y).length ≤ T.length + 1 := by
  have := split_len T hy
  omega
theorem split_none {y : Str} {s : Nat} (ey : TL.tl y = [s]) (hk : y.cps.all (· < 256) = true) {T : Str} (h : s ∉ TL.tl T) : Txt.split T y = [T] := by
  have := TL.split_join (s := s) (S := []) (y := y) ey hk (parts := [T]) (by simp) (fun p hp => by rw [List.mem_singleton.mp hp]; exact h)
  rw [TL.join_eq] at this
  exact this
/-! ### strip -/
theorem strip_all {x y : Str} : Txt.stripChars x y = Str.empty ↔ ∀ c ∈ x.cps.toList, y.cps.contains c = true := by
  obtain ⟨a0, a1, a2⟩ := PyProof.Rows.lo_facts y.cps.contains x
  obtain ⟨b0, b1, b2, b3⟩ := PyProof.Rows.hi_facts y.cps.contains x (PySem.stripLo y.cps.contains true x) a0
  unfold Txt.stripChars
  rw [PyProof.Rows.stripBy_eq]
  generalize PySem.stripLo y.cps.contains true x = lo at *
  generalize PySem.stripHi y.cps.contains true x lo = hi at *
  have hl : (Builtin.Str.strSub x lo hi).length = hi - lo := by
    show (x.cps.extract lo hi).size = hi - lo
    rw [Array.size_extract]
    have : x.cps.size = x.length := rfl
    rw [this]
    have := b1
    omega
  have gd : ∀ k (hk : k < x.length), x.cps.getD k 0 = x.cps[k]'hk := fun k hk => by
    show x.cps.getD k 0 = _
    unfold Array.getD
    exact dif_pos hk
  constructor
  · intro e c hc
    rw [e] at hl
    have hl : 0 = hi - lo := hl
    rw [Array.mem_toList_iff] at hc
    obtain ⟨k, hk, rfl⟩ := Array.getElem_of_mem hc
    by_cases h : k < lo
    · have := a1 k h; rw [gd k hk] at this; exact this
    · have := b2 k (by omega) hk; rw [gd k hk] at this; exact this
  · intro h
    have lo_eq : lo = x.length := by
      rcases a2 with e | e
      · exact e
      · by_cases hlt : lo < x.length
        · rw [gd lo hlt, h _ (by rw [Array.mem_toList_iff]; exact Array.getElem_mem hlt)] at e; cases e
        · omega
    have : hi - lo = 0 := by omega
    rw [this] at hl
    apply str_ext
    exact Array.eq_empty_of_size_eq_zero hl
end My
set_option maxRecDepth 100000
set_option maxHeartbeats 4000000
namespace My
open PySem L2
/-- where the defs and classes stand -/
structure Ad where
  C_Table : Addr
  C_RowsError : Addr
  C_Unknown : Addr
  C_Impossible : Addr
  C_BadText : Addr
  a_BadText_init : Addr
  d_BadText_init : FuncData
  a_is_name : Addr
  d_is_name : FuncData
  a_first_bad_name : Addr
  d_first_bad_name : FuncData
  a_first_stray : Addr
  d_first_stray : FuncData
  a_check_columns : Addr
  d_check_columns : FuncData
  a_check_rows : Addr
  d_check_rows : FuncData
  a_Table_in_order : Addr
  d_Table_in_order : FuncData
  a_Table_init : Addr
  d_Table_init : FuncData
  a_Table_eq : Addr
  d_Table_eq : FuncData
  a_table_text : Addr
  d_table_text : FuncData
  a_is_columns_line : Addr
  d_is_columns_line : FuncData
  a_is_row_line : Addr
  d_is_row_line : FuncData
  a_read_table : Addr
  d_read_table : FuncData
  a_law_cell : Addr
  d_law_cell : FuncData
  a_law_pool : Addr
  d_law_pool : FuncData
  a_law_word : Addr
  d_law_word : FuncData
  a_law_new : Addr
  d_law_new : FuncData
  a_law_marks : Addr
  d_law_marks : FuncData
  a_law_drawn : Addr
  d_law_drawn : FuncData
  a_law_written : Addr
  d_law_written : FuncData
  a_law_sign : Addr
  d_law_sign : FuncData
  a_law_lines_edited : Addr
  d_law_lines_edited : FuncData
  a_law_edited : Addr
  d_law_edited : FuncData
  a_law_different : Addr
  d_law_different : FuncData
  a_law_described : Addr
  d_law_described : FuncData
  a_law_is : Addr
  d_law_is : FuncData
  a_law_answers : Addr
  d_law_answers : FuncData
  a_law_reads : Addr
  d_law_reads : FuncData
  a_law : Addr
  d_law : FuncData
  e_Table_init : Addr
/-- what the top has written -/
structure Txt (P : Program) (K : PySem.W.Frag) (mg : Str → Option Value) (A : Ad) : Prop where
  mg_Table : mg "Table" = some (.ref A.C_Table)
  cl_Table : Cls K A.C_Table
  sf_Table : PySem.W.selfFirst K A.C_Table = true
  mk_Table : Mk K A.C_Table A.a_Table_init
  c1_Table : PySem.W.findIn K (.ref A.C_Table) "__class__" = some (some (.builtin "object.__class__"))
  c3_Table : PySem.W.mroIn K A.C_Table (.type "object") = some true
  n_Table_columns : NoAttr K A.C_Table "columns"
  n_Table_rows : NoAttr K A.C_Table "rows"
  c2 : PySem.W.specialIn K (.builtin "object.__class__") "__get__" = some (some (.builtin "getset_descriptor.__get__"))
  c4 : PySem.W.takesIn K (.builtin "object.__class__") = some true
  mg_RowsError : mg "RowsError" = some (.ref A.C_RowsError)
  tp_RowsError : PySem.W.typeIn K (.ref A.C_RowsError) = some (.type "type")
  ic_RowsError : PySem.W.isClsIn K A.C_RowsError = true
  mg_Unknown : mg "Unknown" = some (.ref A.C_Unknown)
  tp_Unknown : PySem.W.typeIn K (.ref A.C_Unknown) = some (.type "type")
  ic_Unknown : PySem.W.isClsIn K A.C_Unknown = true
  mg_Impossible : mg "Impossible" = some (.ref A.C_Impossible)
  tp_Impossible : PySem.W.typeIn K (.ref A.C_Impossible) = some (.type "type")
  ic_Impossible : PySem.W.isClsIn K A.C_Impossible = true
  mg_BadText : mg "BadText" = some (.ref A.C_BadText)
  tp_BadText : PySem.W.typeIn K (.ref A.C_BadText) = some (.type "type")
  ic_BadText : PySem.W.isClsIn K A.C_BadText = true
  SC_BadText : SupCls P K mg A.C_BadText
  SF_BadText : SupFn P K s_BadText_init "BadText.__init__" A.C_BadText A.a_BadText_init A.d_BadText_init
  ii_BadText : PySem.W.findIn K (.ref A.C_BadText) "__init__" = some (some (.ref A.a_BadText_init))
  ti_BadText : PySem.W.typeIn K (.ref A.a_BadText_init) = some (.type "function")
  b_BadText_init : Binds K A.d_BadText_init ["self", "line"] []
  xn_BadText_line : PySem.W.findIn K (.ref A.C_BadText) "line" = some none
  xf_BadText : XfC K A.C_BadText
  ec_BadText : ExcC K A.C_BadText
  k_BadText : PySem.W.keepIn K (.ref A.C_BadText) = true
  bp_BadText : PySem.W.subIn K (.ref A.C_BadText) (.type "BaseException") = some true
  sv_BadText : PySem.W.subIn K (.ref A.C_BadText) (.type "ValueError") = some true
  ss_BadText : PySem.W.subIn K (.ref A.C_BadText) (.ref A.C_BadText) = some true
  su_BadText_RowsError : PySem.W.subIn K (.ref A.C_BadText) (.ref A.C_RowsError) = some true
  su_BadText_Unknown : PySem.W.subIn K (.ref A.C_BadText) (.ref A.C_Unknown) = some false
  su_BadText_Impossible : PySem.W.subIn K (.ref A.C_BadText) (.ref A.C_Impossible) = some false
  e1_BadText : PySem.W.findIn K (.ref A.C_BadText) "__getattribute__" = some (some (.builtin "BaseException.__getattribute__"))
  e2_BadText : PySem.W.findIn K (.ref A.C_BadText) "__getattr__" = some none
  e3_BadText : PySem.W.hasDictIn K A.C_BadText = true
  e4_BadText : PySem.W.findIn K (.ref A.C_BadText) "__class__" = some (some (.builtin "object.__class__"))
  e5_BadText : PySem.W.mroIn K A.C_BadText (.type "object") = some true
  mg_LONGEST_NAME : ∃ t : Tok, mg "LONGEST_NAME" = some (.int 8 t)
  cr_Table : ClX.CRead K A.C_Table (.type "type")
  cv_Table_MOST_COLUMNS : ∃ u, ClX.CVal K A.C_Table (.type "type") "MOST_COLUMNS" (.int 12) u
  cv_Table_MOST_ROWS : ∃ u, ClX.CVal K A.C_Table (.type "type") "MOST_ROWS" (.int 48) u
  n_abs : mg "abs" = none
  n_int : mg "int" = none
  n_isinstance : mg "isinstance" = none
  n_range : mg "range" = none
  n_len : mg "len" = none
  n_str : mg "str" = none
  n_tuple : mg "tuple" = none
  n_list : mg "list" = none
  n_ValueError : mg "ValueError" = none
  n_all : mg "all" = none
  n_enumerate : mg "enumerate" = none
  n_bool : mg "bool" = none
  F_is_name : Fun K "is_name" "is_name" s_is_name A.a_is_name A.d_is_name
  b_is_name : Binds K A.d_is_name ["text"] []
  mg_is_name : mg "is_name" = some (.ref A.a_is_name)
  F_first_bad_name : Fun K "first_bad_name" "first_bad_name" s_first_bad_name A.a_first_bad_name A.d_first_bad_name
  b_first_bad_name : Binds K A.d_first_bad_name ["names"] []
  mg_first_bad_name : mg "first_bad_name" = some (.ref A.a_first_bad_name)
  F_first_stray : Fun K "first_stray" "first_stray" s_first_stray A.a_first_stray A.d_first_stray
  b_first_stray : Binds K A.d_first_stray ["columns", "names"] []
  mg_first_stray : mg "first_stray" = some (.ref A.a_first_stray)
  F_check_columns : Fun K "check_columns" "check_columns" s_check_columns A.a_check_columns A.d_check_columns
  b_check_columns : Binds K A.d_check_columns ["columns"] []
  mg_check_columns : mg "check_columns" = some (.ref A.a_check_columns)
  F_check_rows : Fun K "_check_rows" "_check_rows" s_check_rows A.a_check_rows A.d_check_rows
  b_check_rows : Binds K A.d_check_rows ["columns", "rows"] []
  mg_check_rows : mg "_check_rows" = some (.ref A.a_check_rows)
  F_Table_in_order : Fun K "_in_order" "Table._in_order" s_Table_in_order A.a_Table_in_order A.d_Table_in_order
  b_Table_in_order : Binds K A.d_Table_in_order ["self", "names"] []
  m_Table_in_order : Meth K A.C_Table "_in_order" A.a_Table_in_order
  F_Table_init : FunD K "__init__" "Table.__init__" (defArgs s_Table_init) (defBody s_Table_init) (defScope s_Table_init) [.ref A.e_Table_init] [] A.a_Table_init A.d_Table_init
  m_Table_init : Meth K A.C_Table "__init__" A.a_Table_init
  F_Table_eq : Fun K "__eq__" "Table.__eq__" s_Table_eq A.a_Table_eq A.d_Table_eq
  b_Table_eq : Binds K A.d_Table_eq ["self", "other"] []
  m_Table_eq : Meth K A.C_Table "__eq__" A.a_Table_eq
  F_table_text : Fun K "table_text" "table_text" s_table_text A.a_table_text A.d_table_text
  b_table_text : Binds K A.d_table_text ["table"] []
  mg_table_text : mg "table_text" = some (.ref A.a_table_text)
  F_is_columns_line : Fun K "is_columns_line" "is_columns_line" s_is_columns_line A.a_is_columns_line A.d_is_columns_line
  b_is_columns_line : Binds K A.d_is_columns_line ["words"] []
  mg_is_columns_line : mg "is_columns_line" = some (.ref A.a_is_columns_line)
  F_is_row_line : Fun K "_is_row_line" "_is_row_line" s_is_row_line A.a_is_row_line A.d_is_row_line
  b_is_row_line : Binds K A.d_is_row_line ["columns", "words"] []
  mg_is_row_line : mg "_is_row_line" = some (.ref A.a_is_row_line)
  F_read_table : Fun K "read_table" "read_table" s_read_table A.a_read_table A.d_read_table
  b_read_table : Binds K A.d_read_table ["text"] []
  mg_read_table : mg "read_table" = some (.ref A.a_read_table)
  F_law_cell : Fun K "_law_cell" "_law_cell" s_law_cell A.a_law_cell A.d_law_cell
  b_law_cell : Binds K A.d_law_cell ["script", "k"] []
  mg_law_cell : mg "_law_cell" = some (.ref A.a_law_cell)
  F_law_pool : Fun K "_law_pool" "_law_pool" s_law_pool A.a_law_pool A.d_law_pool
  b_law_pool : Binds K A.d_law_pool ["script", "k", "count"] []
  mg_law_pool : mg "_law_pool" = some (.ref A.a_law_pool)
  F_law_word : Fun K "_law_word" "_law_word" s_law_word A.a_law_word A.d_law_word
  b_law_word : Binds K A.d_law_word ["pool", "at"] []
  mg_law_word : mg "_law_word" = some (.ref A.a_law_word)
  F_law_new : Fun K "_law_new" "_law_new" s_law_new A.a_law_new A.d_law_new
  b_law_new : Binds K A.d_law_new ["names", "word"] []
  mg_law_new : mg "_law_new" = some (.ref A.a_law_new)
  F_law_marks : Fun K "_law_marks" "_law_marks" s_law_marks A.a_law_marks A.d_law_marks
  b_law_marks : Binds K A.d_law_marks ["columns", "pool", "at"] []
  mg_law_marks : mg "_law_marks" = some (.ref A.a_law_marks)
  F_law_drawn : Fun K "_law_drawn" "_law_drawn" s_law_drawn A.a_law_drawn A.d_law_drawn
  b_law_drawn : Binds K A.d_law_drawn ["script"] []
  mg_law_drawn : mg "_law_drawn" = some (.ref A.a_law_drawn)
  F_law_written : Fun K "_law_written" "_law_written" s_law_written A.a_law_written A.d_law_written
  b_law_written : Binds K A.d_law_written ["columns", "rows"] []
  mg_law_written : mg "_law_written" = some (.ref A.a_law_written)
  F_law_sign : Fun K "_law_sign" "_law_sign" s_law_sign A.a_law_sign A.d_law_sign
  b_law_sign : Binds K A.d_law_sign ["draw"] []
  mg_law_sign : mg "_law_sign" = some (.ref A.a_law_sign)
  F_law_lines_edited : Fun K "_law_lines_edited" "_law_lines_edited" s_law_lines_edited A.a_law_lines_edited A.d_law_lines_edited
  b_law_lines_edited : Binds K A.d_law_lines_edited ["lines", "way", "pool", "at"] []
  mg_law_lines_edited : mg "_law_lines_edited" = some (.ref A.a_law_lines_edited)
  F_law_edited : Fun K "_law_edited" "_law_edited" s_law_edited A.a_law_edited A.d_law_edited
  b_law_edited : Binds K A.d_law_edited ["text", "pool", "at"] []
  mg_law_edited : mg "_law_edited" = some (.ref A.a_law_edited)
  F_law_different : Fun K "_law_different" "_law_different" s_law_different A.a_law_different A.d_law_different
  b_law_different : Binds K A.d_law_different ["words", "known"] []
  mg_law_different : mg "_law_different" = some (.ref A.a_law_different)
  F_law_described : Fun K "_law_described" "_law_described" s_law_described A.a_law_described A.d_law_described
  b_law_described : Binds K A.d_law_described ["text"] []
  mg_law_described : mg "_law_described" = some (.ref A.a_law_described)
  F_law_is : Fun K "_law_is" "_law_is" s_law_is A.a_law_is A.d_law_is
  b_law_is : Binds K A.d_law_is ["found", "columns", "rows"] []
  mg_law_is : mg "_law_is" = some (.ref A.a_law_is)
  F_law_answers : Fun K "_law_answers" "_law_answers" s_law_answers A.a_law_answers A.d_law_answers
  b_law_answers : Binds K A.d_law_answers ["text"] []
  mg_law_answers : mg "_law_answers" = some (.ref A.a_law_answers)
  F_law_reads : Fun K "_law_reads" "_law_reads" s_law_reads A.a_law_reads A.d_law_reads
  b_law_reads : Binds K A.d_law_reads ["text", "columns", "rows"] []
  mg_law_reads : mg "_law_reads" = some (.ref A.a_law_reads)
  F_law : Fun K "law" "law" s_law A.a_law A.d_law
  b_law : Binds K A.d_law ["script"] []
  mg_law : mg "law" = some (.ref A.a_law)
/-- // by any divisor but 0 below 2 ^ 9000 -/
def CDivX (_ j : Int) : Prop := j ≠ 0 ∧ j.natAbs < 2 ^ 9000
theorem op_fdivX {X : Cx} : OpR X (binaryOp .FloorDiv) (rI CDivX fun i j => .int (i.fdiv j)) := opI fun i j _ _ _ _ _ hc q =>
  PyProof.Rows.floordiv_int hc.1 q (.inl (PyProof.noPylong_of_log2 (PySem.Flt.log2_lt_of (by decide) hc.2)))
theorem itN {c A B : Prop} [Decidable c] (hc : ¬ c) (h : B) : if decide c = true then A else B := by
  rw [decide_eq_false hc]; exact iteF h
theorem itY {c A B : Prop} [Decidable c] (hc : c) (h : A) : if decide c = true then A else B := by
  rw [decide_eq_true hc]; exact iteT h
theorem ifT {b : Bool} {A B : Prop} (hb : b = true) (h : A) : if b = true then A else B := by rw [if_pos hb]; exact h
theorem ifF {b : Bool} {A B : Prop} (hb : b = false) (h : B) : if b = true then A else B := by rw [if_neg (by rw [hb]; decide)]; exact h
theorem same_new {H : Hp} {l : Addr} {o : HO} (h : H l = none) : Same H (upd H l o) := fun b u e => by rw [upd_ne (ne_of_none e h)]; exact e
theorem _root_.L2.Same.tup {K : PySem.W.Frag} {H H' : Hp} {a : Addr} {xs : List V} (e : Same H H') (h : SqT K H a xs) : SqT K H' a xs := by
  rcases h with (r | ⟨o, r⟩) | z
  · exact .inl (.inl (e _ _ r))
  · exact .inl (.inr ⟨o, e _ _ r⟩)
  · exact .inr z
/-! ### a comprehension's list -/
/-- the heap H1 has grown, at D stands fm i -/
def PvS (H1 : Hp) (D : Addr) (fm : Nat → List V) (i : Nat) (H : Hp) : Prop := Same H1 H ∧ H D = some (.lst (fm i))
theorem pv0 {H1 : Hp} {D : Addr} {fm : Nat → List V} (hD : H1 D = none) (h : fm 0 = []) : PvS H1 D fm 0 (upd H1 D (.lst [])) := ⟨same_new hD, by rw [h]; exact upd_same⟩
theorem PvS.more {H1 H H' : Hp} {D : Addr} {fm : Nat → List V} {i : Nat} (p : PvS H1 D fm i H) (s : Same H H') : PvS H1 D fm i H' := ⟨p.1.trans s, s _ _ p.2⟩
theorem PvS.push {H1 H : Hp} {D : Addr} {fm : Nat → List V} {i : Nat} {y : V} (p : PvS H1 D fm i H) (hD : H1 D = none) (h : fm (i + 1) = fm i ++ [y]) (hl : (fm i).length ≤ 1000000) :
    ∃ acc, H D = some (.lst acc) ∧ acc.length < sizeLine ∧ PvS H1 D fm (i + 1) (upd H D (.lst (acc ++ [y]))) := by
  refine ⟨fm i, p.2, Nat.lt_of_le_of_lt hl (by decide), fun b o e => ?_, ?_⟩
  · rw [upd_ne (ne_of_none e hD)]; exact p.1 _ _ e
  · rw [h]; exact upd_same
theorem PvS.skip {H1 H : Hp} {D : Addr} {fm : Nat → List V} {i : Nat} (p : PvS H1 D fm i H) (h : fm (i + 1) = fm i) : PvS H1 D fm (i + 1) H := ⟨p.1, by rw [h]; exact p.2⟩
theorem small_int {n : Nat} (h : n ≤ 1000000) : n < sizeLine := Nat.lt_of_le_of_lt h (by decide)
theorem take_succ {α : Type} {xs : List α} {i : Nat} {x : α} (h : xs[i]? = some x) : xs.take (i + 1) = xs.take i ++ [x] := by
  rw [List.take_succ, h]; rfl
section
variable {P : Program} {w : World} {K : PySem.W.Frag} {mg : Str → Option Value} {base : Heap} {A : Ad}
theorem Txt.bi (T : Txt P K mg A) : Binds K A.d_Table_init ["self", "columns", "rows"] [] := by
  obtain ⟨ds, hv, hb⟩ := T.F_Table_init.binds1 (ps := ["self", "columns", "rows"]) 3 1 (by simp) rfl (fun T kV dc pm an cd ct us its hl hi => by
    match us, hl, its, hi with
    | [_, _, _], _, [_], _ => exact ⟨_, rfl, rfl⟩)
  cases hv
  exact hb
theorem ls1 : Str.length ("line " : Str) = 5 := by decide
theorem ok_BadText (T : Txt P K mg A) : FnOk P w K mg base CX0 1 A.a_BadText_init A.d_BadText_init ["self", "line"] (spX1 A.C_BadText "line" smallI) := by
  refine sup_ok T.SF_BadText ss_BadText_init T.SC_BadText rfl rfl rfl (fun _ => rfl) (fun _ => rfl) (fun _ => rfl) (fun vs H Q E h => ?_) (fun cda cc A' outer s H vs Q E hr h => ?_)
  · obtain ⟨a, y, rfl, _⟩ := h
    rfl
  · obtain ⟨a, y, rfl, ⟨i, rfl, hi⟩, ha, k⟩ := h
    have l1 := PyProof.Rows.int_text_len_1921 (small_log hi)
    refine ⟨a, _, _, rfl, ha, (pe_joined (PJ.cons pe_str (PJ.cons (pe_fmt (pv 1)) (PJ.cons pe_str PJ.nil)))), (pss_one (ps_ost (pv 0) (pv 1))), ?_⟩
    have l2 : Str.length (" is wrong" : Str) = 9 := by decide
    refine ⟨_, rfl, by rw [Str.empty_append, ls1]; decide, _, rfl, .inr ⟨i, rfl, small_log hi, _, rfl, ?_, _, rfl, ?_, (by decide : 1 ≤ 1000), ha, _, rfl, _, rfl, a, _, rfl, T.SC_BadText.ox, T.xn_BadText_line, .inl ⟨ha, fun d hd hne => k d hd hne⟩⟩⟩
    · rw [Str.empty_append, Str.length_append, ls1]
      exact Nat.le_trans (Nat.add_le_add_left l1 5) (by decide)
    · rw [Str.empty_append, Str.length_append, Str.length_append, ls1, l2]
      exact Nat.le_trans (Nat.add_le_add_right (Nat.add_le_add_left l1 5) 9) (by decide)
/-! ### names -/
theorem not_take {ns : List Str} {i : Nat} {z : Str} (nd : ns.Nodup) (hz : ns[i]? = some z) : z ∉ ns.take i := by
  intro hm
  obtain ⟨j, hj, e⟩ := List.mem_take_iff_getElem.mp hm
  obtain ⟨hi, e2⟩ := List.getElem?_eq_some_iff.mp hz
  rw [List.nodup_iff_pairwise_ne, List.pairwise_iff_getElem] at nd
  exact nd j i (by omega) hi (by omega) (e.trans e2.symm)
def spName : Sp := fun vs H Q _ => ∃ z, vs = [.str z] ∧ z.length ≤ 16000000 ∧ ∀ H', Same H H' → Q (.bl (okName z)) H'
theorem ok_name (T : Txt P K mg A) : FnOk P w K mg base CX0 1 A.a_is_name A.d_is_name ["text"] spName := by
  refine T.F_is_name.ok sc_is_name (fun vs H Q E h => ?_) (fun cdv A' outer s H vs Q E hr h => ?_)
  · obtain ⟨z, rfl, _⟩ := h
    rfl
  · obtain ⟨z, rfl, g, k⟩ := h
    refine ⟨_, (pss_one (ps_ret (pe_and (pe_chain op_le op_le pe_int (pe_callB call_len_str (by rfl) T.n_len (by decide +kernel) (pa_cons (pv 0) pa_nil)) (pe_glob (v := .int 8) rfl T.mg_LONGEST_NAME.choose_spec ⟨_, rfl⟩)) (pe_one (pe_callB (cr_all rfl) (by rfl) T.n_all (by decide +kernel) (pa_cons (pe_lc (own := [("sign", 1)]) (g := gName 1) (tt := tYes) rfl sc_is_name.nd (pi_str (pv 0)) (blkOk_by (N := ["text", "sign"]) (sc := defScope s_is_name) (by decide +kernel)) (fun _ _ _ _ _ => (pg_name (i := 1) sc_is_name.nd rfl (Or.inl rfl))) (fun _ _ _ _ _ => pts_nil) (fun _ _ _ _ _ => (pe_chain op_le_str op_le_str pe_str (pv 1) pe_str))) pa_nil)))))), ?_⟩
    have hz : z.length ≤ sizeLine := Nat.le_trans g (by decide)
    refine ⟨_, rfl, z, rfl, hz, _, _, rfl, rfl, _, rfl, ?_⟩
    by_cases h1 : 1 ≤ z.length
    · refine itY (by omega) ⟨_, _, rfl, rfl, _, rfl, ?_⟩
      by_cases h8 : z.length ≤ 8
      · refine itY (by omega) ?_
        refine ⟨_, rfl, z, rfl, fun D hD => lc_it walk_str (PvS H D fun i => (z.cps.toList.take i).map fun c => V.bl (decide (97 ≤ c ∧ c ≤ 122))) (pv0 hD rfl) (fun _ _ _ _ => trivial) ?_ ?_⟩
        · rintro i x H30 H3 hi p ⟨rfl, c, hc, rfl⟩
          have hc' : z.cps.toList[i]? = some c := by rw [Array.getElem?_toList]; exact hc
          have push : ∀ b : Bool, b = decide (97 ≤ c ∧ c ≤ 122) → ∃ acc, H3 D = some (.lst acc) ∧ acc.length < sizeLine ∧ PvS H D (fun i => (z.cps.toList.take i).map fun c => V.bl (decide (97 ≤ c ∧ c ≤ 122))) (i + 1) (upd H3 D (.lst (acc ++ [V.bl b]))) := fun b hb => by
            refine p.push hD ?_ ?_
            · show (z.cps.toList.take (i + 1)).map _ = _
              rw [take_succ hc', List.map_append, hb]; rfl
            · show ((z.cps.toList.take i).map _).length ≤ 1000000
              rw [List.length_map, List.length_take]
              have h2 : z.cps.size = z.length := rfl
              rw [Array.length_toList]; omega
          refine ⟨rfl, ?_⟩
          refine ⟨_, rfl, _, _, rfl, rfl, _, rfl, ?_⟩
          by_cases ha : 97 ≤ c
          · refine ifT (by
              show (!decide ([c] < [97])) = true
              have : ¬ c < 97 := by omega
              simp [List.cons_lt_cons_iff] <;> omega) ⟨_, _, rfl, rfl, push _ ?_⟩
            show (!decide ([122] < [c])) = decide (97 ≤ c ∧ c ≤ 122)
            by_cases hb : c ≤ 122
            · rw [decide_eq_true (⟨ha, hb⟩ : 97 ≤ c ∧ c ≤ 122)]
              simp [List.cons_lt_cons_iff] <;> omega
            · rw [decide_eq_false (fun h : 97 ≤ c ∧ c ≤ 122 => hb h.2)]
              simp [List.cons_lt_cons_iff] <;> omega
          · refine ifF (by
              show (!decide ([c] < [97])) = false
              simp [List.cons_lt_cons_iff] <;> omega) (push _ ?_)
            rw [decide_eq_false (fun h : 97 ≤ c ∧ c ≤ 122 => ha h.1)]
            first | done | (show (!decide ([c] < [97])) = false; simp [List.cons_lt_cons_iff] <;> omega)
        · rintro H3 ⟨sm, h3⟩
          have h3 : H3 D = some (.lst ((z.cps.toList.take z.cps.size).map fun c => V.bl (decide (97 ≤ c ∧ c ≤ 122)))) := h3
          rw [List.take_of_length_le (by rw [Array.length_toList]; exact Nat.le_refl _)] at h3
          refine ⟨D, z.cps.toList.map fun c => decide (97 ≤ c ∧ c ≤ 122), rfl, SqL.of (by rw [List.map_map]; exact h3), ?_⟩
          have e : (z.cps.toList.map fun c => decide (97 ≤ c ∧ c ≤ 122)).all id = okName z := by
            unfold okName
            rw [decide_eq_true h1, decide_eq_true h8, List.all_map]; rfl
          rw [e]
          exact k H3 sm
      · refine itN (by omega) ?_
        have e : okName z = false := by unfold okName; rw [decide_eq_false h8]; simp
        rw [e] at k
        exact k H (Same.refl _)
    · refine itN (by omega) ?_
      have e : okName z = false := by unfold okName; rw [decide_eq_false h1]; rfl
      rw [e] at k
      exact ⟨_, rfl, iteF (k H (Same.refl _))⟩
def spFirstBad (K : PySem.W.Frag) : Sp := fun vs H Q _ => ∃ l ns, vs = [.ref l] ∧ SqL K H l (sv ns) ∧ (∀ z ∈ ns, z.length ≤ 16000000) ∧ ∀ H', Same H H' → Q (optV (firstBad ns)) H'
theorem ok_firstBad (T : Txt P K mg A) : FnOk P w K mg base CX0 2 A.a_first_bad_name A.d_first_bad_name ["names"] (spFirstBad K) := by
  have G_is_name := ok_name (P := P) (w := w) (base := base) T
  refine T.F_first_bad_name.ok sc_first_bad_name (fun vs H Q E h => ?_) (fun cdv A' outer s H vs Q E hr h => ?_)
  · obtain ⟨l, ns, rfl, _⟩ := h
    rfl
  · obtain ⟨l, ns, rfl, hS, g, k⟩ := h
    refine ⟨_, (pss_cons (ps_for PassesOwn.never rfl (pi_enum (by rfl) T.n_enumerate (pa_cons (pv 0) pa_nil)) (pg_tup (by rfl) (pgs_cons (pg_name (i := 1) sc_first_bad_name.nd rfl (Or.inl rfl)) (pgs_cons (pg_name (i := 2) sc_first_bad_name.nd rfl (Or.inl rfl)) pgs_nil)))
        (pss_one (ps_if (PW.pt (pw_or (pt_not (pt_val (pe_call G_is_name (hr.mono (by decide)) rfl T.mg_is_name T.F_is_name.kp T.b_is_name .nil pass0 (pa_cons (pv 2) pa_nil)))) (pw_or1 (pt_cmpR op_in_seq (pv 2) (pe_slice sl_list (pv 0) po_none (po_some (pv 1))) (by with_unfolding_all rfl))))) (pss_one (ps_ret (pv 1))) pss_nil)))
      (pss_one (ps_ret pe_non))), ?_⟩
    refine ⟨_, rfl, l, _, rfl, hS, for_it walk_enum (fun i σ H2 => Same H H2 ∧ (∀ j, j < i → badName ns j = false) ∧ ∃ u1 u2 : Option V, σ = [some (.ref l), u1, u2]) ⟨Same.refl _, fun j hj => absurd hj (Nat.not_lt_zero _), none, none, rfl⟩ (fun i σ H2 _ p => p.1.seq hS) ?_ ?_⟩
    · rintro i x σ H2 H3 hi ⟨sm, hb, u1, u2, rfl⟩ ⟨t, _, _, rfl, ht, rfl, ⟨⟩, hx⟩
      obtain ⟨z, hz, rfl⟩ := sv_get hx
      have hil : i < ns.length := by rw [len_sv] at hi; exact hi
      have bad : badName ns i = (!okName z || decide (z ∈ ns.take i)) := by unfold badName; rw [hz]
      refine ⟨t, _, rfl, SqT.of upd_same, rfl, _, _, rfl, _, _, rfl, rfl, ?_⟩
      refine ⟨_, rfl, z, rfl, g z (List.mem_of_getElem? hz), fun H4 sm4 => ⟨_, rfl, ?_⟩⟩
      have s4 : Same H H4 := sm.trans ((same_new ht).trans sm4)
      cases ok : okName z with
      | false =>
        refine ifT rfl (ifT rfl ⟨_, rfl, ?_⟩)
        have e := firstBad_some hil (by rw [bad, ok]; rfl) hb
        rw [e] at k
        exact k _ s4
      | true =>
        refine ifF rfl ⟨_, rfl, _, rfl, _, rfl, _, rfl, l, _, rfl, s4.seq hS, fun p hp => ⟨p, _, rfl, .inl (SqL.of upd_same), rfl, by rw [cut_take (by omega), sv_take]; exact flat_sv _, _, rfl, ?_⟩⟩
        rw [if_neg Bool.false_ne_true, cut_take (by omega), sv_take, inV_str]
        have s5 := s4.trans (same_new (o := .lst (cutV (sv ns) none (some ((i : Nat) : Int)))) hp)
        rw [cut_take (by omega), sv_take] at s5
        by_cases hp2 : z ∈ ns.take i
        · refine ifT (decide_eq_true hp2) ⟨_, rfl, ?_⟩
          have e := firstBad_some hil (by rw [bad, decide_eq_true hp2, Bool.or_true]) hb
          rw [e] at k
          exact k _ s5
        · refine ifF (decide_eq_false hp2) ⟨s5, fun j hj => ?_, _, _, rfl⟩
          rcases Nat.lt_succ_iff_lt_or_eq.mp hj with q | q
          · exact hb j q
          · rw [q, bad, ok, decide_eq_false hp2]; rfl
    · rintro σ H2 ⟨sm, hb, u1, u2, rfl⟩
      have e := firstBad_none (ns := ns) fun j hj => hb j (by rw [len_sv]; exact hj)
      rw [e] at k
      exact k H2 sm
def spStray (sq1 sq2 : Hp → Addr → List V → Prop) : Sp := fun vs H Q _ => ∃ c l cs ns, vs = [.ref c, .ref l] ∧ sq1 H c (sv cs) ∧ sq2 H l (sv ns) ∧ ns.length ≤ 16000000 ∧ ∀ H', Same H H' → Q (optV (stray cs ns)) H'
theorem ok_stray (T : Txt P K mg A) : FnOk P w K mg base CX0 1 A.a_first_stray A.d_first_stray ["columns", "names"] (spStray (SqL K) (SqL K)) := by
  refine T.F_first_stray.ok sc_first_stray (fun vs H Q E h => ?_) (fun cdv A' outer s H vs Q E hr h => ?_)
  · obtain ⟨c, l, cs, ns, rfl, _⟩ := h
    rfl
  · obtain ⟨c, l, cs, ns, rfl, h1, h2, hl, k⟩ := h
    refine ⟨_, (pss_cons (ps_for PassesOwn.never rfl (pi_enum (by rfl) T.n_enumerate (pa_cons (pv 1) pa_nil)) (pg_tup (by rfl) (pgs_cons (pg_name (i := 2) sc_first_stray.nd rfl (Or.inl rfl)) (pgs_cons (pg_name (i := 3) sc_first_stray.nd rfl (Or.inl rfl)) pgs_nil)))
        (pss_one (ps_if (PW.pt (pw_or (pt_cmpR op_notIn_seq (pv 3) (pv 0) (by with_unfolding_all rfl)) (pw_or1 (pt_cmpR op_in_seq (pv 3) (pe_slice sl_list (pv 1) po_none (po_some (pv 2))) (by with_unfolding_all rfl))))) (pss_one (ps_ret (pv 2))) pss_nil)))
      (pss_one (ps_ret pe_non))), ?_⟩
    refine ⟨_, rfl, l, _, rfl, h2, for_it walk_enum (fun i σ H2 => Same H H2 ∧ (∀ j, j < i → badAt cs ns j = false) ∧ ∃ u1 u2 : Option V, σ = [some (.ref c), some (.ref l), u1, u2]) ⟨Same.refl _, fun j hj => absurd hj (Nat.not_lt_zero _), none, none, rfl⟩ (fun i σ H2 _ p => p.1.seq h2) ?_ ?_⟩
    · rintro i x σ H2 H3 hi ⟨sm, hb, u1, u2, rfl⟩ ⟨t, _, _, rfl, ht, rfl, ⟨⟩, hx⟩
      obtain ⟨z, hz, rfl⟩ := sv_get hx
      have hil : i < ns.length := by rw [len_sv] at hi; exact hi
      have bad : badAt cs ns i = (!decide (z ∈ cs) || decide (z ∈ ns.take i)) := by unfold badAt; rw [hz]
      refine ⟨t, _, rfl, SqT.of upd_same, rfl, _, _, rfl, _, _, rfl, rfl, ?_⟩
      have s3 : Same H (upd H2 t (.tup [.int (i : Nat), .str z])) := sm.trans (same_new ht)
      refine ⟨_, rfl, _, rfl, c, _, rfl, .inl (s3.seq h1), rfl, flat_sv _, _, rfl, ?_⟩
      rw [if_pos (rfl : true = true), inV_str]
      by_cases hc : z ∈ cs
      · refine ifF (by rw [decide_eq_true hc]; rfl) ?_
        refine ⟨_, rfl, _, rfl, _, rfl, _, rfl, l, _, rfl, s3.seq h2, fun p hp => ⟨p, _, rfl, .inl (SqL.of upd_same), rfl, by rw [cut_take (by omega), sv_take]; exact flat_sv _, _, rfl, ?_⟩⟩
        rw [if_neg Bool.false_ne_true, cut_take (by omega), sv_take, inV_str]
        have s4 := s3.trans (same_new (o := .lst (cutV (sv ns) none (some ((i : Nat) : Int)))) hp)
        rw [cut_take (by omega), sv_take] at s4
        by_cases hp2 : z ∈ ns.take i
        · refine ifT (decide_eq_true hp2) ⟨_, rfl, ?_⟩
          have e := stray_some (cs := cs) hil (by rw [bad, decide_eq_true hp2, Bool.or_true]) hb
          rw [e] at k
          exact k _ s4
        · refine ifF (decide_eq_false hp2) ⟨s4, fun j hj => ?_, _, _, rfl⟩
          rcases Nat.lt_succ_iff_lt_or_eq.mp hj with q | q
          · exact hb j q
          · rw [q, bad, decide_eq_true hc, decide_eq_false hp2]; rfl
      · refine ifT (by rw [decide_eq_false hc]; rfl) (ifT rfl ⟨_, rfl, ?_⟩)
        have e := stray_some (cs := cs) hil (by rw [bad, decide_eq_false hc]; rfl) hb
        rw [e] at k
        exact k _ s3
    · rintro σ H2 ⟨sm, hb, u1, u2, rfl⟩
      have e := stray_none (cs := cs) (ns := ns) fun j hj => hb j (by rw [len_sv]; exact hj)
      rw [e] at k
      exact k H2 sm
end
end My
set_option maxRecDepth 100000
set_option maxHeartbeats 4000000
namespace My
open PySem L2
theorem itNe {A B : Prop} {x y : V} (h : x = y) (h2 : B) : if (!decide (x = y)) = true then A else B := by
  rw [decide_eq_true h]; exact iteF h2
theorem itNeN {A B : Prop} {x y : V} (h : x ≠ y) (h2 : A) : if (!decide (x = y)) = true then A else B := by
  rw [decide_eq_false h]; exact iteT h2
/-- a def that may raise -/
theorem funX {P : Program} {w : World} {K : PySem.W.Frag} {mg : Str → Option Value} {base : Heap} {CX : CXT} {x qual : Str} {st : Stmt} {f : Addr} {fd : FuncData} {N ps : List Str} {k : Nat} {sp : Sp} (F : Fun K x qual st f fd) (S : FnScope N ps (defScope st)) (len : ∀ vs H Q E, sp vs H Q E → vs.length = ps.length)
    (hbody : ∀ (cdv : Value) (A : Around) (outer : List Env) (s : Shared) (H : Hp) (vs : List V) (Q : VK) (E : XK), Room k (A.deeper (PyProof.Rows.envOfC qual (defScope st) s.heap.objs.size f cdv)) → sp vs H Q E →
      ∃ t, PSs (cxOf CX P w K mg base N qual (defScope st) f cdv A outer s H E) (defBody st) t ∧ t { nx := fun _ H' => Q .non H', rt := Q } (L2.start N vs) H) : FnOk P w K mg base CX (k + 1) f fd ps sp := by
  obtain ⟨oc, od, kV, doc, pm, an, cdv, ct, osl, rfl, lk, hcd⟩ := F.ex
  exact fn_of lk hcd S len fun A outer s H vs Q E hr hsp => hbody cdv A outer s H vs Q E hr hsp
theorem seq_upd {K : PySem.W.Frag} {H : Hp} {a b : Addr} {xs : List V} {u o : HO} (h : SqL K H a xs) (hb : H b = some u) (h1 : ∀ ys, u ≠ .lst ys) (h2 : ∀ c d, u ≠ .frz c d) : SqL K (upd H b o) a xs := by
  rcases h with (r | ⟨c, r⟩) | z
  · exact .inl (.inl (by rw [upd_ne (ne_of r hb (fun z => h1 _ z.symm))]; exact r))
  · exact .inl (.inr ⟨c, by rw [upd_ne (ne_of r hb (fun z => h2 _ _ z.symm))]; exact r⟩)
  · exact .inr z
/-! ### tables -/
theorem krc : ¬ (("columns" : Str) = "rows") := by decide +kernel
def fldsT (ct rt : Addr) : List (Str × V) := putF "rows" (.ref rt) (putF "columns" (.ref ct) [])
theorem fldsT_columns (ct rt : Addr) : (fldsT ct rt).lookup ("columns" : Str) = some (.ref ct) := by
  unfold fldsT; rw [lookup_putF, if_neg krc, lookup_putF, if_pos rfl]
theorem fldsT_rows (ct rt : Addr) : (fldsT ct rt).lookup ("rows" : Str) = some (.ref rt) := by
  unfold fldsT; rw [lookup_putF, if_pos rfl]
/-- at ts stand the lists (or tuples) of texts rs -/
structure Lss (f : List V → HO) (H : Hp) (ts : List Addr) (rs : List (List Str)) : Prop where
  len : ts.length = rs.length
  at_ : ∀ (i : Nat) (t : Addr) (r : List Str), ts[i]? = some t → rs[i]? = some r → H t = some (f (sv r))
theorem Lss.same {f : List V → HO} {H H' : Hp} {ts : List Addr} {rs : List (List Str)} (h : Lss f H ts rs) (e : Same H H') : Lss f H' ts rs := ⟨h.len, fun i t x a b => e _ _ (h.at_ i t x a b)⟩
theorem Lss.nil {f : List V → HO} {H : Hp} : Lss f H [] [] := ⟨rfl, fun i t x h => by simp at h⟩
theorem Lss.app {f : List V → HO} {H : Hp} {ts : List Addr} {rs : List (List Str)} {t : Addr} {r : List Str} (h : Lss f H ts rs) (ht : H t = some (f (sv r))) : Lss f H (ts ++ [t]) (rs ++ [r]) := by
  refine ⟨by rw [List.length_append, List.length_append, h.len]; rfl, fun i u y a b => ?_⟩
  rcases Nat.lt_trichotomy i ts.length with c | c | c
  · rw [List.getElem?_append_left c] at a
    rw [List.getElem?_append_left (by rw [← h.len]; exact c)] at b
    exact h.at_ i u y a b
  · rw [c, List.getElem?_append_right (Nat.le_refl _), Nat.sub_self] at a
    rw [c, h.len, List.getElem?_append_right (Nat.le_refl _), Nat.sub_self] at b
    cases a; cases b; exact ht
  · rw [List.getElem?_append_right (by omega), List.getElem?_eq_none (by simp; omega)] at a
    cases a
theorem Lss.get {f : List V → HO} {H : Hp} {ts : List Addr} {rs : List (List Str)} (h : Lss f H ts rs) {i : Nat} {t : Addr} (hi : ts[i]? = some t) : ∃ r, rs[i]? = some r ∧ H t = some (f (sv r)) := by
  have hx : i < rs.length := by rw [← h.len]; exact (List.getElem?_eq_some_iff.mp hi).1
  exact ⟨rs[i], List.getElem?_eq_getElem hx, h.at_ i _ _ hi (List.getElem?_eq_getElem hx)⟩
theorem refs_get {ts : List Addr} {i : Nat} {v : V} (h : (ts.map V.ref)[i]? = some v) : ∃ t, ts[i]? = some t ∧ v = .ref t := by
  rw [List.getElem?_map] at h
  cases e : ts[i]? with
  | none => rw [e] at h; cases h
  | some t => rw [e] at h; exact ⟨t, rfl, (Option.some.inj h).symm⟩
/-- the row in the columns' sequence -/
def canon (cs r : List Str) : List Str := cs.filter fun x => decide (x ∈ r)
theorem canon_T {l r : List Str} {z : Str} (hm : z ∈ r) : canon (l ++ [z]) r = canon l r ++ [z] := by
  unfold canon; rw [List.filter_append]; simp [hm]
theorem canon_F {l r : List Str} {z : Str} (hm : z ∉ r) : canon (l ++ [z]) r = canon l r := by
  unfold canon; rw [List.filter_append]; simp [hm]
theorem Lss.updT {H : Hp} {ts : List Addr} {rs : List (List Str)} {l : Addr} {u o : HO} (h : Lss .tup H ts rs) (hl : H l = some u) (hu : ∀ xs, u ≠ .tup xs) : Lss .tup (upd H l o) ts rs := ⟨h.len, fun i t x a b => by
  have := h.at_ i t x a b
  rw [upd_ne (ne_of this hl (fun z => hu _ z.symm))]
  exact this⟩
/-- the table with the columns cs and the rows rs stands at p -/
def Tb (C : Addr) (H : Hp) (p : Addr) (cs : List Str) (rs : List (List Str)) : Prop :=
  ∃ dx ct rt ts, H p = some (.ins C dx (fldsT ct rt)) ∧ H ct = some (.tup (sv cs)) ∧ H rt = some (.tup (ts.map V.ref)) ∧ Lss .tup H ts (rs.map (canon cs))
theorem Tb.same {C : Addr} {H H' : Hp} {p : Addr} {cs : List Str} {rs : List (List Str)} (h : Tb C H p cs rs) (e : Same H H') : Tb C H' p cs rs :=
  let ⟨dx, ct, rt, ts, h1, h2, h3, h4⟩ := h; ⟨dx, ct, rt, ts, e _ _ h1, e _ _ h2, e _ _ h3, h4.same e⟩
section
variable {P : Program} {w : World} {K : PySem.W.Frag} {mg : Str → Option Value} {base : Heap} {A : Ad}
theorem exc_same {H : Hp} {a d : Addr} {o1 o2 o3 o4 : HO} (ha : H a = none) (hd : H d = none) : Same H (upd (L2.del (upd (upd (upd H a o1) d o2) a o3) a) d o4) := fun b o e => by
  rw [upd_ne (ne_of_none e hd), L2.del_ne (ne_of_none e ha), upd_ne (ne_of_none e ha), upd_ne (ne_of_none e hd), upd_ne (ne_of_none e ha)]
  exact e
/-! ### Table(..) -/
def spCols (K : PySem.W.Frag) : Sp := fun vs H Q _ => ∃ l cs, vs = [.ref l] ∧ SqL K H l (sv cs) ∧ (∀ z ∈ cs, Good z) ∧ cs.Nodup ∧ cs.length ≤ 12 ∧ ∀ H', Same H H' → Q .non H'
theorem ok_cols (T : Txt P K mg A) : FnOk P w K mg base CX0 3 A.a_check_columns A.d_check_columns ["columns"] (spCols K) := by
  have G_first_bad_name := ok_firstBad (P := P) (w := w) (base := base) T
  refine T.F_check_columns.ok sc_check_columns (fun vs H Q E h => ?_) (fun cdv A' outer s H vs Q E hr h => ?_)
  · obtain ⟨l, cs, rfl, _⟩ := h
    rfl
  · obtain ⟨l, cs, rfl, h1, g, nd, hl, k⟩ := h
    refine ⟨_, (pss_cons (ps_if (pt_cmpR op_gt (pe_callB call_len_seq (by rfl) T.n_len (by decide +kernel) (pa_cons (pv 0) pa_nil)) (ClX.pe_cval (pe_glob (v := .ref A.C_Table) rfl T.mg_Table rfl)) (nomark _)) (pss_one ps_never) pss_nil)
      (pss_cons (ps_set (i := 1) sc_check_columns.nd rfl (Or.inl rfl) (pe_call G_first_bad_name (hr.mono (by decide)) rfl T.mg_first_bad_name T.F_first_bad_name.kp T.b_first_bad_name .nil pass0 (pa_cons (pv 0) pa_nil)))
      (pss_one (ps_if (pt_cmpR op_notN (pv 1) pe_non (nomark _)) (pss_one ps_never) pss_nil)))), ?_⟩
    obtain ⟨u, hu⟩ := T.cv_Table_MOST_COLUMNS
    refine ⟨_, rfl, l, _, rfl, .inl h1, _, _, _, _, rfl, T.cr_Table, hu, _, _, rfl, rfl, _, rfl, itN (by rw [len_sv]; omega) ?_⟩
    refine ⟨_, rfl, l, cs, rfl, h1, fun z hz => Nat.le_trans (g z hz).le (by decide), fun H2 sm => ?_⟩
    rw [firstBad_none_iff.mpr ⟨g, nd⟩]
    exact ⟨_, rfl, rfl, _, rfl, itNe rfl (k _ sm)⟩
def spChRows (K : PySem.W.Frag) : Sp := fun vs H Q _ => ∃ l r cs ts rs, vs = [.ref l, .ref r] ∧ SqL K H l (sv cs) ∧ SqL K H r (ts.map V.ref) ∧ Lss .lst H ts rs ∧ rs.length ≤ 48 ∧ (∀ x ∈ rs, stray cs x = none ∧ x.length ≤ 1000) ∧ ∀ H', Same H H' → Q .non H'
theorem ok_chRows (T : Txt P K mg A) : FnOk P w K mg base CX0 2 A.a_check_rows A.d_check_rows ["columns", "rows"] (spChRows K) := by
  have G_first_stray := ok_stray (P := P) (w := w) (base := base) T
  refine T.F_check_rows.ok sc_check_rows (fun vs H Q E h => ?_) (fun cdv A' outer s H vs Q E hr h => ?_)
  · obtain ⟨l, r, cs, ts, rs, rfl, _⟩ := h
    rfl
  · obtain ⟨l, r, cs, ts, rs, rfl, h1, h2, hs, hl, hg, k⟩ := h
    refine ⟨_, (pss_cons (ps_if (pt_cmpR op_gt (pe_callB call_len_seq (by rfl) T.n_len (by decide +kernel) (pa_cons (pv 1) pa_nil)) (ClX.pe_cval (pe_glob (v := .ref A.C_Table) rfl T.mg_Table rfl)) (nomark _)) (pss_one ps_never) pss_nil)
      (pss_one (ps_for PassesOwn.never rfl (pi_enum (by rfl) T.n_enumerate (pa_cons (pv 1) pa_nil)) (pg_tup (by rfl) (pgs_cons (pg_name (i := 2) sc_check_rows.nd rfl (Or.inl rfl)) (pgs_cons (pg_name (i := 3) sc_check_rows.nd rfl (Or.inl rfl)) pgs_nil)))
        (pss_one (ps_if (pt_cmpR op_notN (pe_call G_first_stray (hr.mono (by decide)) rfl T.mg_first_stray T.F_first_stray.kp T.b_first_stray .nil pass0 (pa_cons (pv 0) (pa_cons (pv 3) pa_nil))) pe_non (nomark _)) (pss_one ps_never) pss_nil))))), ?_⟩
    obtain ⟨u, hu⟩ := T.cv_Table_MOST_ROWS
    refine ⟨_, rfl, r, _, rfl, .inl h2, _, _, _, _, rfl, T.cr_Table, hu, _, _, rfl, rfl, _, rfl, itN (by rw [List.length_map, hs.len]; omega) ?_⟩
    refine ⟨_, rfl, r, _, rfl, h2, for_it walk_enum (fun i σ H2 => Same H H2 ∧ ∃ u1 u2 : Option V, σ = [some (.ref l), some (.ref r), u1, u2]) ⟨Same.refl _, none, none, rfl⟩ (fun i σ H2 _ p => p.1.seq h2) ?_ ?_⟩
    · rintro i x σ H2 H3 hi ⟨sm, u1, u2, rfl⟩ ⟨t, _, _, rfl, ht, rfl, ⟨⟩, hx⟩
      obtain ⟨b, hb, rfl⟩ := refs_get hx
      obtain ⟨y, hy, ho⟩ := hs.get hb
      have g := hg y (List.mem_of_getElem? hy)
      have s3 : Same H (upd H2 t (.tup [.int (i : Nat), .ref b])) := sm.trans (same_new ht)
      refine ⟨t, _, rfl, SqT.of upd_same, rfl, _, _, rfl, _, _, rfl, rfl, ?_⟩
      refine ⟨_, rfl, _, rfl, l, b, cs, y, rfl, s3.seq h1, SqL.of (s3 _ _ ho), Nat.le_trans g.2 (by decide), fun H4 sm4 => ?_⟩
      rw [g.1]
      exact ⟨rfl, _, rfl, itNe rfl ⟨s3.trans sm4, _, _, rfl⟩⟩
    · rintro σ H2 ⟨sm, u1, u2, rfl⟩
      exact k H2 sm
def spInOrder (C : Addr) (K : PySem.W.Frag) : Sp := fun vs H Q _ => ∃ p l dx ct cs r fs, vs = [.ref p, .ref l] ∧ H p = some (.ins C dx fs) ∧ fs.lookup ("columns" : Str) = some (.ref ct) ∧ H ct = some (.tup (sv cs)) ∧ SqL K H l (sv r) ∧ cs.length ≤ 1000 ∧
  ∀ t H', Same H H' → H' t = some (.tup (sv (canon cs r))) → Q (.ref t) H'
theorem ok_inOrder (T : Txt P K mg A) : FnOk P w K mg base CX0 1 A.a_Table_in_order A.d_Table_in_order ["self", "names"] (spInOrder A.C_Table K) := by
  refine T.F_Table_in_order.ok sc_Table_in_order (fun vs H Q E h => ?_) (fun cdv A' outer s H vs Q E hr h => ?_)
  · obtain ⟨p, l, dx, ct, cs, r, fs, rfl, _⟩ := h
    rfl
  · obtain ⟨p, l, dx, ct, cs, r, fs, rfl, h1, hct, hc, h2, hl, k⟩ := h
    refine ⟨_, (pss_one (ps_ret (pe_callTy call_tuple_of (by rfl) T.n_tuple (by decide +kernel) (pa_cons (pe_lc (own := [("name", 2)]) (g := gName 2) (tt := _) rfl sc_Table_in_order.nd (pi_tup (pe_fld (pv 0) rfl)) (blkOk_by (N := ["self", "names", "name"]) (sc := defScope s_Table_in_order) (by decide +kernel)) (fun _ _ _ _ _ => (pg_name (i := 2) sc_Table_in_order.nd rfl (Or.inl rfl))) (fun _ _ _ _ _ => (pts_one (pt_cmpR (show OpR _ _ (rIn K false) from op_in_seq) (pv 2) (pv 1) (by with_unfolding_all rfl)))) (fun _ _ _ _ _ => (pv 2))) pa_nil)))), ?_⟩
    have stepT : ∀ i z, cs[i]? = some z → z ∈ r → sv (canon (cs.take (i + 1)) r) = sv (canon (cs.take i) r) ++ [V.str z] := fun i z hz hm => by
      rw [take_succ hz, canon_T hm]; exact List.map_append
    have stepF : ∀ i z, cs[i]? = some z → z ∉ r → sv (canon (cs.take (i + 1)) r) = sv (canon (cs.take i) r) := fun i z hz hm => by
      rw [take_succ hz, canon_F hm]
    refine ⟨_, rfl, p, _, dx, fs, _, rfl, h1, T.cl_Table, T.n_Table_columns, hct, ct, rfl, ⟨_, SqT.of hc⟩, fun D hD => lc_it walk_tup (PvS H D fun i => sv (canon (cs.take i) r)) (pv0 hD rfl) (fun i H2 _ q => q.1.tup (SqT.of hc)) ?_ ?_⟩
    · rintro i x H3 H4 hi q ⟨rfl, hx⟩
      obtain ⟨z, hz, rfl⟩ := sv_get hx
      refine ⟨rfl, _, rfl, _, rfl, l, _, rfl, .inl (q.1.seq h2), rfl, flat_sv _, _, rfl, ?_⟩
      rw [if_neg Bool.false_ne_true, inV_str]
      have hlen : (sv (canon (cs.take i) r)).length ≤ 1000000 := by
        have := List.length_filter_le (fun x => decide (x ∈ r)) (cs.take i)
        rw [List.length_take] at this
        rw [len_sv]; unfold canon; omega
      by_cases hm : z ∈ r
      · exact ifT (decide_eq_true hm) ⟨_, rfl, q.push hD (stepT i z hz hm) hlen⟩
      · exact ifF (decide_eq_false hm) (q.skip (stepF i z hz hm))
    · rintro H3 ⟨sm, h3⟩
      have h3 : H3 D = some (.lst (sv (canon (cs.take (sv cs).length) r))) := h3
      rw [len_sv, List.take_length] at h3
      exact ⟨D, _, rfl, .inl ⟨SqL.of h3, fun t ht => k t _ (sm.trans (same_new ht)) upd_same⟩⟩
def spTable (C : Addr) (K : PySem.W.Frag) : Sp := fun vs H Q _ => ∃ p l r dx cs ts rs, vs = [.ref p, .ref l, .ref r] ∧ H p = some (.ins C dx []) ∧ SqL K H l (sv cs) ∧ SqL K H r (ts.map V.ref) ∧ Lss .lst H ts rs ∧
  (∀ z ∈ cs, Good z) ∧ cs.Nodup ∧ cs.length ≤ 12 ∧ rs.length ≤ 48 ∧ (∀ x ∈ rs, stray cs x = none ∧ x.length ≤ 1000) ∧ ∀ H', (∀ b o, b ≠ p → H b = some o → H' b = some o) → Tb C H' p cs rs → Q .non H'
theorem ok_table (T : Txt P K mg A) : FnOk P w K mg base CX0 4 A.a_Table_init A.d_Table_init ["self", "columns", "rows"] (spTable A.C_Table K) := by
  have G_check_columns := ok_cols (P := P) (w := w) (base := base) T
  have G_check_rows := ok_chRows (P := P) (w := w) (base := base) T
  have G_Table_in_order := ok_inOrder (P := P) (w := w) (base := base) T
  refine T.F_Table_init.ok sc_Table_init (fun vs H Q E h => ?_) (fun cdv A' outer s H vs Q E hr h => ?_)
  · obtain ⟨p, l, r, dx, cs, ts, rs, rfl, _⟩ := h
    rfl
  · obtain ⟨p, l, r, dx, cs, ts, rs, rfl, hp, h1, h2, hs, g, nd, hc, hrs, hst, k⟩ := h
    refine ⟨_, (pss_cons (ps_expr (pe_call G_check_columns (hr.mono (by decide)) rfl T.mg_check_columns T.F_check_columns.kp T.b_check_columns .nil pass0 (pa_cons (pv 1) pa_nil)))
      (pss_cons (ps_expr (pe_call G_check_rows (hr.mono (by decide)) rfl T.mg_check_rows T.F_check_rows.kp T.b_check_rows .nil pass0 (pa_cons (pv 1) (pa_cons (pv 2) pa_nil))))
      (pss_cons (ps_fld (pv 0) (pe_callTy call_tuple_of (by rfl) T.n_tuple (by decide +kernel) (pa_cons (pv 1) pa_nil)) rfl)
      (pss_one (ps_fld (pv 0) (pe_callTy call_tuple_of (by rfl) T.n_tuple (by decide +kernel) (pa_cons (pe_lc (own := [("row", 3)]) (g := gName 3) (tt := tYes) rfl sc_Table_init.nd (pi_list (pv 2)) (blkOk_by (N := ["self", "columns", "rows", "row"]) (sc := defScope s_Table_init) (by decide +kernel)) (fun _ _ _ _ _ => (pg_name (i := 3) sc_Table_init.nd rfl (Or.inl rfl))) (fun _ _ _ _ _ => pts_nil) (fun _ _ _ _ _ => (pe_meth (pv 0) T.cl_Table T.m_Table_in_order G_Table_in_order (hr.mono (by decide)) T.b_Table_in_order .nil pass0 (pa_cons (pv 3) pa_nil)))) pa_nil)) rfl))))), ?_⟩
    refine ⟨_, rfl, l, cs, rfl, h1, g, nd, hc, fun H1 s1 => ?_⟩
    refine ⟨_, rfl, _, rfl, l, r, cs, ts, rs, rfl, s1.seq h1, s1.seq h2, hs.same s1, hrs, hst, fun H2 s2 => ?_⟩
    have s2 := s1.trans s2
    refine ⟨_, rfl, l, _, rfl, .inl ⟨s2.seq h1, fun ct hct => ?_⟩⟩
    have hp2 : upd H2 ct (.tup (sv cs)) p = some (.ins A.C_Table dx []) := by rw [upd_ne (ne_of_none (s2 _ _ hp) hct)]; exact s2 _ _ hp
    refine ⟨_, rfl, p, _, dx, [], rfl, hp2, T.cl_Table, T.n_Table_columns, (by show 0 < 1000; decide), ?_⟩
    have npc : ct ≠ p := fun z => by rw [z] at hct; rw [s2 _ _ hp] at hct; cases hct
    generalize hX : upd (upd H2 ct _) p _ = H3
    have hp3 : H3 p = some (.ins A.C_Table dx (putF "columns" (.ref ct) [])) := by rw [← hX]; exact upd_same
    have hc3 : H3 ct = some (.tup (sv cs)) := by rw [← hX, upd_ne npc]; exact upd_same
    have sm3 : ∀ b o, b ≠ p → H b = some o → H3 b = some o := fun b o hb e => by
      rw [← hX, upd_ne hb, upd_ne (ne_of_none (s2 _ _ e) hct)]; exact s2 _ _ e
    have h23 : SqL K H3 r (ts.map V.ref) := by
      have := (s2.trans (same_new (o := .tup (sv cs)) hct)).seq h2
      rw [← hX]; exact seq_upd this hp2 (fun xs z => nomatch z) (fun o u z => nomatch z)
    have hs3 : Lss .lst H3 ts rs := ⟨hs.len, fun i t x a b => sm3 t _ (ne_of (hs.at_ i t x a b) hp (fun z => nomatch z)) (hs.at_ i t x a b)⟩
    clear hX hp2
    have hlk : (putF "columns" (.ref ct) ([] : List (Str × V))).lookup ("columns" : Str) = some (.ref ct) := by rw [lookup_putF, if_pos rfl]
    have hlm : (putF "columns" (.ref ct) ([] : List (Str × V))).lookup ("_in_order" : Str) = none := by rw [lookup_putF, if_neg (by decide +kernel)]; rfl
    refine ⟨_, rfl, r, rfl, ⟨_, h23⟩, fun D hD => lc_it walk_list (fun i H4 => Same H3 H4 ∧ ∃ us : List Addr, H4 D = some (.lst (us.map V.ref)) ∧ Lss .tup H4 us ((rs.take i).map (canon cs))) ⟨same_new hD, [], upd_same, Lss.nil⟩ (fun i H4 _ q => q.1.seq h23) ?_ ?_⟩
    · rintro i x H4 H5 hi ⟨s4, us, hd4, hl4⟩ ⟨rfl, hx⟩
      obtain ⟨b, hb, rfl⟩ := refs_get hx
      obtain ⟨y, hy, ho⟩ := (hs3.same s4).get hb
      refine ⟨rfl, _, rfl, p, dx, _, rfl, s4 _ _ hp3, hlm, _, rfl, p, b, dx, ct, cs, y, _, rfl, s4 _ _ hp3, hlk, s4 _ _ hc3, SqL.of ho, by omega, fun t H6 s6 ht => ?_⟩
      have hd6 := s6 _ _ hd4
      refine ⟨_, hd6, small_int (by rw [List.length_map, hl4.len, List.length_map, List.length_take]; omega), ?_, us ++ [t], ?_, ?_⟩
      · intro c o e
        rw [upd_ne (ne_of_none e hD)]
        exact s6 _ _ (s4 _ _ e)
      · rw [List.map_append]; exact upd_same
      · rw [take_succ hy, List.map_append]
        exact ((hl4.same s6).app ht).updT hd6 (fun xs z => nomatch z)
    · rintro H4 ⟨s4, us, hd4, hl4⟩
      rw [List.length_map, hs.len, List.take_length] at hl4
      refine ⟨D, _, rfl, .inl ⟨SqL.of hd4, fun rt hrt => ?_⟩⟩
      have hp5 : upd H4 rt (.tup (us.map V.ref)) p = some (.ins A.C_Table dx (putF "columns" (.ref ct) [])) := by rw [upd_ne (ne_of_none (s4 _ _ hp3) hrt)]; exact s4 _ _ hp3
      refine ⟨_, rfl, p, _, dx, _, rfl, hp5, T.cl_Table, T.n_Table_rows, (by show 1 < 1000; decide), ?_⟩
      have nrp : rt ≠ p := fun z => by rw [z] at hrt; rw [s4 _ _ hp3] at hrt; cases hrt
      have nrc : ct ≠ rt := ne_of_none (s4 _ _ hc3) hrt
      refine k _ (fun b o hb e => ?_) ⟨dx, ct, rt, us, upd_same, ?_, ?_, ?_⟩
      · have z := s4 _ _ (sm3 b o hb e)
        rw [upd_ne hb, upd_ne (ne_of_none z hrt)]
        exact z
      · rw [upd_ne npc, upd_ne nrc]; exact s4 _ _ hc3
      · rw [upd_ne nrp]; exact upd_same
      · exact (hl4.same (same_new (o := .tup (us.map V.ref)) hrt)).updT hp5 (fun xs z => nomatch z)
end
end My
set_option maxRecDepth 100000
set_option maxHeartbeats 4000000
namespace My
open PySem L2
/-! ### == of lists of names -/
theorem ok_good {z : Str} (h : Good z) : PyData.canLay0 (.str z) = true := by
  unfold PyData.canLay0 PyData.strOk
  rw [Array.all_eq_true]
  intro i hi
  have := h.let_ z.cps[i] (by rw [Array.mem_toList_iff]; exact Array.getElem_mem hi)
  exact decide_eq_true (by omega)
abbrev pd (ss : List Str) : List PyData := ss.map PyData.str
theorem lay_all {ss : List Str} (h : ∀ z ∈ ss, Good z) : PyData.canLayAll0 (pd ss) = true := by
  induction ss with
  | nil => rfl
  | cons a t ih =>
    show (PyData.canLay0 (.str a) && PyData.canLayAll0 (pd t)) = true
    rw [ok_good (h a List.mem_cons_self), ih fun z hz => h z (List.mem_cons_of_mem _ hz)]; rfl
theorem depth_pd : ∀ ss : List Str, PyData.depthAll (pd ss) ≤ 1
  | [] => by simp [PyData.depthAll]
  | n :: r => by
    have e : PyData.depthAll (r.map PyData.str) ≤ 1 := depth_pd r
    simp only [List.map_cons, PyData.depthAll, PyData.depth]
    omega
theorem shaped_pd {ss : List Str} (h : ∀ z ∈ ss, Good z) : SeqAt.shaped (.list (pd ss)) = true := by
  have h1 := depth_pd ss
  show (PyData.canLay0 (.list (pd ss)) && decide (PyData.depth (.list (pd ss)) ≤ 64)) = true
  rw [Bool.and_eq_true]
  exact ⟨by simp only [PyData.canLay0]; exact lay_all h, decide_eq_true (by simp only [PyData.depth]; omega)⟩
theorem dp_pd {K : PySem.W.Frag} {H : Hp} : ∀ ss : List Str, DpAll K H (sv ss) (pd ss)
  | [] => .nil
  | s :: r => .cons (.str s) (dp_pd r)
theorem eqv_pd {ss : List Str} (h : ∀ z ∈ ss, Good z) : PyData.eqv (.list (pd ss)) (.list (pd ss)) = true := SeqAt.eqv_refl _ (by simp only [PyData.canLay0]; exact lay_all h)
/-- a list of tuples of names -/
abbrev pdd (rs : List (List Str)) : List PyData := rs.map fun r => PyData.tuple (pd r)
theorem lay_pdd {rs : List (List Str)} (h : ∀ r ∈ rs, ∀ z ∈ r, Good z) : PyData.canLayAll0 (pdd rs) = true := by
  induction rs with
  | nil => rfl
  | cons a t ih =>
    show (PyData.canLay0 (.tuple (pd a)) && PyData.canLayAll0 (pdd t)) = true
    rw [ih fun z hz => h z (List.mem_cons_of_mem _ hz), show PyData.canLay0 (.tuple (pd a)) = true by simp only [PyData.canLay0]; exact lay_all (h a List.mem_cons_self)]; rfl
theorem depth_pdd : ∀ rs : List (List Str), PyData.depthAll (pdd rs) ≤ 3
  | [] => by simp [PyData.depthAll]
  | r :: t => by
    have h1 : PyData.depthAll (t.map fun r => PyData.tuple (pd r)) ≤ 3 := depth_pdd t
    have h2 := depth_pd r
    simp only [List.map_cons, PyData.depthAll, PyData.depth]
    omega
theorem shaped_pdd {rs : List (List Str)} (h : ∀ r ∈ rs, ∀ z ∈ r, Good z) : SeqAt.shaped (.list (pdd rs)) = true := by
  have h1 := depth_pdd rs
  show (PyData.canLay0 (.list (pdd rs)) && decide (PyData.depth (.list (pdd rs)) ≤ 64)) = true
  rw [Bool.and_eq_true]
  exact ⟨by simp only [PyData.canLay0]; exact lay_pdd h, decide_eq_true (by simp only [PyData.depth]; omega)⟩
theorem eqv_pdd {rs : List (List Str)} (h : ∀ r ∈ rs, ∀ z ∈ r, Good z) : PyData.eqv (.list (pdd rs)) (.list (pdd rs)) = true := SeqAt.eqv_refl _ (by simp only [PyData.canLay0]; exact lay_pdd h)
theorem dp_pdd {K : PySem.W.Frag} {H : Hp} : ∀ {ts : List Addr} {rs : List (List Str)}, Lss .tup H ts rs → DpAll K H (ts.map V.ref) (pdd rs)
  | [], [], _ => .nil
  | [], _ :: _, h => nomatch h.len
  | _ :: _, [], h => nomatch h.len
  | t :: ts, r :: rs, h => .cons (.tup (xs := sv r) (SqT.of (h.at_ 0 t r rfl rfl)) (dp_pd r)) (dp_pdd ⟨Nat.succ.inj h.len, fun i u x a b => h.at_ (i + 1) u x a b⟩)
theorem nd_len : ∀ (x cs : List Str), x.Nodup → (∀ y ∈ x, y ∈ cs) → x.length ≤ cs.length
  | [], _, _, _ => Nat.zero_le _
  | a :: t, cs, nd, h => by
    have nd := List.nodup_cons.mp nd
    have hp := List.perm_cons_erase (h a List.mem_cons_self)
    have := nd_len t (cs.erase a) nd.2 fun y hy => by
      have hy' := h y (List.mem_cons_of_mem _ hy)
      exact (List.mem_erase_of_ne (fun e => nd.1 (by rw [← e]; exact hy))).mpr hy'
    have e := hp.length_eq
    rw [List.length_cons] at e ⊢
    omega
theorem sv_snoc (l : List Str) (x : Str) : sv (l ++ [x]) = sv l ++ [V.str x] := List.map_append
theorem ls_nl : Str.length ("\n" : Str) = 1 := by decide
theorem ls_sp : Str.length (" " : Str) = 1 := by decide
theorem shapedT_pd {ss : List Str} (h : ∀ z ∈ ss, Good z) : SeqAt.shaped (.tuple (pd ss)) = true := by
  have h1 := depth_pd ss
  show (PyData.canLay0 (.tuple (pd ss)) && decide (PyData.depth (.tuple (pd ss)) ≤ 64)) = true
  rw [Bool.and_eq_true]
  exact ⟨by simp only [PyData.canLay0]; exact lay_all h, decide_eq_true (by simp only [PyData.depth]; omega)⟩
theorem eqvT_pd {ss : List Str} (h : ∀ z ∈ ss, Good z) : PyData.eqv (.tuple (pd ss)) (.tuple (pd ss)) = true := SeqAt.eqv_refl _ (by simp only [PyData.canLay0]; exact lay_all h)
theorem shapedT_pdd {rs : List (List Str)} (h : ∀ r ∈ rs, ∀ z ∈ r, Good z) : SeqAt.shaped (.tuple (pdd rs)) = true := by
  have h1 := depth_pdd rs
  show (PyData.canLay0 (.tuple (pdd rs)) && decide (PyData.depth (.tuple (pdd rs)) ≤ 64)) = true
  rw [Bool.and_eq_true]
  exact ⟨by simp only [PyData.canLay0]; exact lay_pdd h, decide_eq_true (by simp only [PyData.depth]; omega)⟩
theorem eqvT_pdd {rs : List (List Str)} (h : ∀ r ∈ rs, ∀ z ∈ r, Good z) : PyData.eqv (.tuple (pdd rs)) (.tuple (pdd rs)) = true := SeqAt.eqv_refl _ (by simp only [PyData.canLay0]; exact lay_pdd h)
theorem good_canon {cs : List Str} {rs : List (List Str)} (g : ∀ z ∈ cs, Good z) : ∀ r ∈ rs.map (canon cs), ∀ z ∈ r, Good z := fun r hr z hz => by
  obtain ⟨x, _, rfl⟩ := List.mem_map.mp hr
  exact g z (List.mem_filter.mp hz).1
section
variable {P : Program} {w : World} {K : PySem.W.Frag} {mg : Str → Option Value} {base : Heap} {A : Ad}
theorem Txt.ko_self (T : Txt P K mg A) : PySem.W.kitOne K (.ref A.C_Table) (.ref A.C_Table) = some true := by
  unfold PySem.W.kitOne
  rw [if_pos (by simp)]
theorem Txt.ty (T : Txt P K mg A) {H : Hp} {p dx : Addr} {fs : List (Str × V)} (h : H p = some (.ins A.C_Table dx fs)) : TyX K H (.ref p) (.ref A.C_Table) :=
  .base (.ins h T.cl_Table T.c1_Table T.c2 T.c4 T.c3_Table)
/-- two tables of the same columns and rows are equal -/
def spEq (C : Addr) : Sp := fun vs H Q _ => ∃ p1 p2 cs rs, vs = [.ref p1, .ref p2] ∧ Tb C H p1 cs rs ∧ Tb C H p2 cs rs ∧ (∀ z ∈ cs, Good z) ∧ Q (.bl true) H
theorem ok_eq (T : Txt P K mg A) : FnOk P w K mg base CX0 1 A.a_Table_eq A.d_Table_eq ["self", "other"] (spEq A.C_Table) := by
  refine T.F_Table_eq.ok sc_Table_eq (fun vs H Q E h => ?_) (fun cdv A' outer s H vs Q E hr h => ?_)
  · obtain ⟨p1, p2, cs, rs, rfl, _⟩ := h
    rfl
  · obtain ⟨p1, p2, cs, rs, rfl, t1, t2, g, k⟩ := h
    obtain ⟨d1, c1, r1, ts1, h1, hc1, hr1, hs1⟩ := t1
    obtain ⟨d2, c2, r2, ts2, h2, hc2, hr2, hs2⟩ := t2
    refine ⟨_, (pss_one (ps_ret (pe_and (pe_callB call_isi (by rfl) T.n_isinstance (by decide +kernel) (pa_cons (pv 1) (pa_cons (pe_glob (v := .ref A.C_Table) rfl T.mg_Table rfl) pa_nil))) (pe_and (pe_cmpR (op_eqD hr.units) (pe_fld (pv 0) rfl) (pe_fld (pv 1) rfl) (nomark _)) (pe_one (pe_cmpR (op_eqD hr.units) (pe_fld (pv 0) rfl) (pe_fld (pv 1) rfl) (nomark _))))))), ?_⟩
    have gc := good_canon (rs := rs) g
    refine ⟨_, rfl, _, _, _, _, true, rfl, .own _, T.ty h2, T.ko_self, true, rfl, iteT ?_⟩
    refine ⟨_, rfl, _, _, _, _, _, rfl, h1, T.cl_Table, T.n_Table_columns, fldsT_columns _ _, _, rfl, _, _, _, _, _, rfl, h2, T.cl_Table, T.n_Table_columns, fldsT_columns _ _, .tuple (pd cs), .tuple (pd cs), .tup (xs := sv cs) (SqT.of hc1) (dp_pd cs), .tup (xs := sv cs) (SqT.of hc2) (dp_pd cs), shapedT_pd g, shapedT_pd g, ?_⟩
    refine ⟨_, rfl, ifT (eqvT_pd g) ?_⟩
    refine ⟨_, rfl, _, _, _, _, _, rfl, h1, T.cl_Table, T.n_Table_rows, fldsT_rows _ _, _, rfl, _, _, _, _, _, rfl, h2, T.cl_Table, T.n_Table_rows, fldsT_rows _ _, .tuple (pdd (rs.map (canon cs))), .tuple (pdd (rs.map (canon cs))), .tup (SqT.of hr1) (dp_pdd hs1), .tup (SqT.of hr2) (dp_pdd hs2), shapedT_pdd gc, shapedT_pdd gc, ?_⟩
    rw [eqvT_pdd gc]
    exact k
def spColsLn (K : PySem.W.Frag) : Sp := fun vs H Q _ => ∃ l w, vs = [.ref l] ∧ SqL K H l (sv w) ∧ 0 < w.length ∧ (∀ z ∈ w, z.length ≤ 16000000) ∧ ∀ H' b, Same H H' → (b = true ↔ ColsOk w) → Q (.bl b) H'
theorem ok_colsLn (T : Txt P K mg A) : FnOk P w K mg base CX0 3 A.a_is_columns_line A.d_is_columns_line ["words"] (spColsLn K) := by
  have G_first_bad_name := ok_firstBad (P := P) (w := w) (base := base) T
  refine T.F_is_columns_line.ok sc_is_columns_line (fun vs H Q E h => ?_) (fun cdv A' outer s H vs Q E hr h => ?_)
  · obtain ⟨l, ws, rfl, _⟩ := h
    rfl
  · obtain ⟨l, ws, rfl, h1, h0, hz, k⟩ := h
    refine ⟨_, (pss_cons (ps_set (i := 1) sc_is_columns_line.nd rfl (Or.inl rfl) (pe_slice sl_list (pv 0) (po_some pe_int) po_none))
      (pss_one (ps_ret (pe_and (pe_cmpR op_eq (pe_ix ix_list (pv 0) pe_int (fun _ _ => rfl)) pe_str (nomark _)) (pe_and (pe_cmpR op_le (pe_callB call_len_seq (by rfl) T.n_len (by decide +kernel) (pa_cons (pv 1) pa_nil)) (ClX.pe_cval (pe_glob (v := .ref A.C_Table) rfl T.mg_Table rfl)) (nomark _)) (pe_one (pe_cmpR op_isN (pe_call G_first_bad_name (hr.mono (by decide)) rfl T.mg_first_bad_name T.F_first_bad_name.kp T.b_first_bad_name .nil pass0 (pa_cons (pv 1) pa_nil)) pe_non (nomark _)))))))), ?_⟩
    obtain ⟨u, hu⟩ := T.cv_Table_MOST_COLUMNS
    refine ⟨_, rfl, _, rfl, l, _, rfl, h1, fun a ha => ?_⟩
    have e1 : cutV (sv ws) (some 1) none = sv ws.tail := by
      rw [show (1 : Int) = ((1 : Nat) : Int) from rfl, cut_drop (by rw [len_sv]; omega), sv_drop, List.drop_one]
    rw [e1]
    have sa := same_new (o := .lst (sv ws.tail)) ha
    have at0 : atI (sv ws) 0 = some (V.str ws[0]) := by
      show atI _ ((0 : Nat) : Int) = _
      exact atI_nat (by rw [List.getElem?_map, List.getElem?_eq_getElem h0]; rfl)
    have e0 : ws[0]? = some ws[0] := List.getElem?_eq_getElem h0
    refine ⟨_, rfl, l, _, _, _, rfl, rfl, sa.seq h1, at0, rfl, _, rfl, ?_⟩
    by_cases hw : ws[0] = ("columns" : Str)
    · refine ifT (by rw [hw]; exact decide_eq_true rfl) ?_
      refine ⟨_, rfl, a, _, rfl, .inl (SqL.of upd_same), _, _, _, _, rfl, T.cr_Table, hu, _, _, rfl, rfl, _, rfl, ?_⟩
      by_cases hn : ws.tail.length ≤ 12
      · refine itY (by rw [len_sv]; omega) ?_
        refine ⟨_, rfl, a, ws.tail, rfl, SqL.of upd_same, fun z m => hz z (List.mem_of_mem_tail m), fun H2 sm => ?_⟩
        refine ⟨rfl, k H2 _ (sa.trans sm) ?_⟩
        rw [decide_eq_true_iff]
        constructor
        · intro e
          have e : optV (firstBad ws.tail) = .non := e
          have : firstBad ws.tail = none := by
            cases hf : firstBad ws.tail with
            | none => rfl
            | some i => rw [hf] at e; cases e
          obtain ⟨p, q⟩ := firstBad_none_iff.mp this
          exact ⟨by rw [e0, hw], hn, p, q⟩
        · rintro ⟨_, _, p, q⟩
          rw [firstBad_none_iff.mpr ⟨p, q⟩]; rfl
      · refine itN (by rw [len_sv]; omega) (k _ _ sa ⟨fun z => (nomatch z), fun z => absurd z.2.1 hn⟩)
    · refine ifF (decide_eq_false fun z => hw (V.str.inj z)) (k _ _ sa ⟨fun z => (nomatch z), fun z => ?_⟩)
      have := z.1
      rw [e0] at this
      exact absurd (Option.some.inj this) hw
def spRowLn (K : PySem.W.Frag) : Sp := fun vs H Q _ => ∃ c l cs w, vs = [.ref c, .ref l] ∧ SqL K H c (sv cs) ∧ SqL K H l (sv w) ∧ 0 < w.length ∧ w.length ≤ 16000000 ∧ ∀ H' b, Same H H' → (b = true ↔ RowOk cs w) → Q (.bl b) H'
theorem ok_rowLn (T : Txt P K mg A) : FnOk P w K mg base CX0 2 A.a_is_row_line A.d_is_row_line ["columns", "words"] (spRowLn K) := by
  have G_first_stray := ok_stray (P := P) (w := w) (base := base) T
  refine T.F_is_row_line.ok sc_is_row_line (fun vs H Q E h => ?_) (fun cdv A' outer s H vs Q E hr h => ?_)
  · obtain ⟨c, l, cs, ws, rfl, _⟩ := h
    rfl
  · obtain ⟨c, l, cs, ws, rfl, hc, h1, h0, hn, k⟩ := h
    refine ⟨_, (pss_one (ps_ret (pe_and (pe_cmpR op_eq (pe_ix ix_list (pv 1) pe_int (fun _ _ => rfl)) pe_str (nomark _)) (pe_one (pe_cmpR op_isN (pe_call G_first_stray (hr.mono (by decide)) rfl T.mg_first_stray T.F_first_stray.kp T.b_first_stray .nil pass0 (pa_cons (pv 0) (pa_cons (pe_slice sl_list (pv 1) (po_some pe_int) po_none) pa_nil))) pe_non (nomark _)))))), ?_⟩
    have at0 : atI (sv ws) 0 = some (V.str ws[0]) := by
      show atI _ ((0 : Nat) : Int) = _
      exact atI_nat (by rw [List.getElem?_map, List.getElem?_eq_getElem h0]; rfl)
    have e0 : ws[0]? = some ws[0] := List.getElem?_eq_getElem h0
    refine ⟨_, rfl, l, _, _, _, rfl, rfl, h1, at0, rfl, _, rfl, ?_⟩
    by_cases hw : ws[0] = ("row" : Str)
    · refine ifT (by rw [hw]; exact decide_eq_true rfl) ?_
      refine ⟨_, rfl, _, rfl, _, rfl, l, _, rfl, h1, fun a ha => ?_⟩
      have e1 : cutV (sv ws) (some 1) none = sv ws.tail := by
        rw [show (1 : Int) = ((1 : Nat) : Int) from rfl, cut_drop (by rw [len_sv]; omega), sv_drop, List.drop_one]
      rw [e1]
      have sa := same_new (o := .lst (sv ws.tail)) ha
      refine ⟨c, a, cs, ws.tail, rfl, sa.seq hc, SqL.of upd_same, by rw [List.length_tail]; omega, fun H2 sm => ?_⟩
      refine ⟨rfl, k H2 _ (sa.trans sm) ?_⟩
      rw [decide_eq_true_iff]
      constructor
      · intro e
        have e : optV (stray cs ws.tail) = .non := e
        have : stray cs ws.tail = none := by
          cases hf : stray cs ws.tail with
          | none => rfl
          | some i => rw [hf] at e; cases e
        obtain ⟨p, q⟩ := stray_none_iff.mp this
        exact ⟨by rw [e0, hw], p, q⟩
      · rintro ⟨_, p, q⟩
        rw [stray_none_iff.mpr ⟨p, q⟩]; rfl
    · refine ifF (decide_eq_false fun z => hw (V.str.inj z)) (k _ _ (Same.refl _) ⟨fun z => (nomatch z), fun z => ?_⟩)
      have := z.1
      rw [e0] at this
      exact absurd (Option.some.inj this) hw
end
end My
set_option maxRecDepth 100000
set_option maxHeartbeats 4000000
namespace My
open PySem L2
theorem Lss.updNe {f : List V → HO} {H : Hp} {ts : List Addr} {rs : List (List Str)} {l : Addr} {o : HO} (h : Lss f H ts rs) (hne : ∀ (i : Nat) (t : Addr), ts[i]? = some t → t ≠ l) : Lss f (upd H l o) ts rs :=
  ⟨h.len, fun i t x a b => by rw [upd_ne (hne i t a)]; exact h.at_ i t x a b⟩
theorem ne_app {ts : List Addr} {a l : Addr} (h : ∀ (i : Nat) (t : Addr), ts[i]? = some t → t ≠ l) (ha : a ≠ l) : ∀ (i : Nat) (t : Addr), (ts ++ [a])[i]? = some t → t ≠ l := fun i t e => by
  rcases List.mem_append.mp (List.mem_of_getElem? e) with hm | hm
  · obtain ⟨j, hj, rfl⟩ := List.getElem_of_mem hm
    exact h j _ (List.getElem?_eq_getElem hj)
  · rw [List.mem_singleton.mp hm]; exact ha
theorem noT {r : Addr} : ∀ (i : Nat) (t : Addr), ([] : List Addr)[i]? = some t → t ≠ r := fun i t h => by simp at h
/-- a comprehension's list of new lists -/
def LcL (H1 : Hp) (D : Addr) (lls : List (List Str)) (H : Hp) : Prop := Same H1 H ∧ ∃ us : List Addr, H D = some (.lst (us.map V.ref)) ∧ Lss .lst H us lls ∧ ∀ (i : Nat) (t : Addr), us[i]? = some t → t ≠ D
theorem lcl0 {H1 : Hp} {D : Addr} (hD : H1 D = none) : LcL H1 D [] (upd H1 D (.lst [])) := ⟨same_new hD, [], upd_same, Lss.nil, noT⟩
theorem LcL.push {H1 H H' : Hp} {D a : Addr} {lls : List (List Str)} {y : List Str} (q : LcL H1 D lls H) (hD : H1 D = none) (s : Same H H') (ha : H' a = some (.lst (sv y))) (hne : a ≠ D) (hl : lls.length ≤ 15100001) :
    ∃ acc, H' D = some (.lst acc) ∧ acc.length < sizeLine ∧ LcL H1 D (lls ++ [y]) (upd H' D (.lst (acc ++ [.ref a]))) := by
  obtain ⟨sm, us, hd, hls, hn⟩ := q
  refine ⟨us.map V.ref, s _ _ hd, Nat.lt_of_le_of_lt (by rw [List.length_map, hls.len]; exact hl) (by decide), fun b o e => ?_, us ++ [a], ?_, ?_, ne_app hn hne⟩
  · rw [upd_ne (ne_of_none e hD)]; exact s _ _ (sm _ _ e)
  · rw [List.map_append]; exact upd_same
  · exact ((hls.same s).app ha).updNe (ne_app hn hne)
theorem LcL.new {H1 H : Hp} {D a : Addr} {lls : List (List Str)} {y : List Str} (q : LcL H1 D lls H) (hD : H1 D = none) (ha : H a = none) (hl : lls.length ≤ 15100001) :
    ∃ acc, (upd H a (.lst (sv y))) D = some (.lst acc) ∧ acc.length < sizeLine ∧ LcL H1 D (lls ++ [y]) (upd (upd H a (.lst (sv y))) D (.lst (acc ++ [.ref a]))) :=
  q.push hD (same_new ha) upd_same (by obtain ⟨_, us, hd, _⟩ := q; exact (ne_of_none hd ha).symm) hl
theorem headD_of {ls : List (List Str)} {w : List Str} (h : ls[0]? = some w) : ls.headD [] = w := by
  cases ls with
  | nil => simp at h
  | cons a t => exact Option.some.inj h
theorem told_0 {ls : List (List Str)} {w : List Str} (h0 : ls[0]? = some w) (hn : ¬ ColsOk w) : Told ls (some 0) :=
  ⟨fun _ => ⟨w, h0, hn⟩, fun z => absurd rfl z, fun k e k0 => (by cases e; omega), fun i i0 il hlt z => absurd rfl z⟩
theorem told_k {ls : List (List Str)} {w : List Str} (h0 : ls[0]? = some w) (hc : ColsOk w) {k : Nat} (k0 : 0 < k) (kl : k < ls.length) (kb : BadLn w.tail ls k) (hl : ∀ i, 0 < i → i < k → ¬ BadLn w.tail ls i) : Told ls (some k) := by
  have e := headD_of h0
  refine ⟨fun z => (by cases z; omega), fun _ => ⟨w, h0, hc⟩, fun m z _ => (by cases z; rw [e]; exact ⟨kl, kb⟩), fun i i0 il hlt _ => ?_⟩
  rw [e]
  exact hl i i0 (hlt k rfl)
theorem told_no {ls : List (List Str)} {w : List Str} (h0 : ls[0]? = some w) (hc : ColsOk w) (hl : ∀ i, 0 < i → i < ls.length → ¬ BadLn w.tail ls i) : Told ls none := by
  have e := headD_of h0
  refine ⟨fun z => (nomatch z), fun _ => ⟨w, h0, hc⟩, fun m z _ => (nomatch z), fun i i0 il _ _ => ?_⟩
  rw [e]
  exact hl i i0 il
theorem bad_row {cs : List Str} {ls : List (List Str)} {k : Nat} {w : List Str} (h : ls[k]? = some w) (hk : k ≤ 48) (hb : RowOk cs w) : ¬ BadLn cs ls k := fun z => by
  rcases z with z | ⟨w', e, n⟩
  · omega
  · rw [h] at e; cases e; exact n hb
/-- what a good text gives -/
structure GoodT (ls : List (List Str)) (w : List Str) : Prop where
  h0 : ls[0]? = some w
  c : ColsOk w
  n : ls.length ≤ 49
  r : ∀ x ∈ ls.tail.map List.tail, stray w.tail x = none ∧ x.length ≤ 1000
theorem goodT {ls : List (List Str)} (h : Told ls none) : ∃ w, GoodT ls w := by
  obtain ⟨w, h0, hc⟩ := h.c (fun z => nomatch z)
  have hl := h.l
  rw [headD_of h0] at hl
  have hl : ∀ i, 0 < i → i < ls.length → ¬ BadLn w.tail ls i := fun i a b => hl i a b (fun k z => nomatch z) (fun z => nomatch z)
  refine ⟨w, h0, hc, Nat.le_of_not_lt fun z => hl 49 (by decide) (by omega) (.inl (by decide)), fun x hx => ?_⟩
  obtain ⟨y, hy, rfl⟩ := List.mem_map.mp hx
  obtain ⟨i, hi, e⟩ := List.getElem_of_mem hy
  have hi' : i + 1 < ls.length := by rw [List.length_tail] at hi; omega
  have e' : ls[i + 1]? = some y := by rw [List.getElem?_eq_getElem hi', ← e, List.getElem_tail]
  have hr : RowOk w.tail y := Classical.byContradiction fun z => hl (i + 1) (Nat.succ_pos _) hi' (.inr ⟨y, e', z⟩)
  have := nd_len y.tail w.tail hr.2.2 hr.2.1
  have := hc.2.1
  exact ⟨stray_none_iff.mpr ⟨hr.2.1, hr.2.2⟩, by omega⟩
theorem cut_tail (ws : List Str) : cutV (sv ws) (some 1) none = sv ws.tail := by
  cases ws with
  | nil => rfl
  | cons a t => rw [show (1 : Int) = ((1 : Nat) : Int) from rfl, cut_drop (by rw [len_sv]; simp), sv_drop, List.drop_one]
theorem cut_tailR {us : List Addr} (h : 0 < us.length) : cutV (us.map V.ref) (some 1) none = us.tail.map V.ref := by
  rw [show (1 : Int) = ((1 : Nat) : Int) from rfl, cut_drop (by rw [List.length_map]; omega), ← List.map_drop, List.drop_one]
theorem Lss.tail {f : List V → HO} {H : Hp} {us : List Addr} {ls : List (List Str)} (h : Lss f H us ls) : Lss f H us.tail ls.tail := by
  refine ⟨by rw [List.length_tail, List.length_tail, h.len], fun i t x a b => ?_⟩
  rw [List.getElem?_tail] at a b
  exact h.at_ (i + 1) t x a b
theorem nl0 : (("\n" : Str).length == 0) = false := by decide
theorem sp0 : ((" " : Str).length == 0) = false := by decide
theorem lns_len (T : Str) : (lns T).length = (Txt.split T "\n").length := List.length_map ..
theorem lns_pos (T : Str) : 0 < (lns T).length := by rw [lns_len]; exact split_ne _ _
theorem lns_le (T : Str) : (lns T).length ≤ T.length + 1 := by rw [lns_len]; exact pieces_len ls_nl
theorem lns_word {T : Str} {w : List Str} (hw : w ∈ lns T) : 0 < w.length ∧ w.length ≤ T.length + 1 ∧ ∀ z ∈ w, z.length ≤ T.length := by
  obtain ⟨l, hl, rfl⟩ := List.mem_map.mp hw
  have h1 := piece_len ls_nl hl
  have h2 := pieces_len (T := l) ls_sp
  refine ⟨split_ne _ _, by omega, fun z hz => ?_⟩
  have := piece_len ls_sp hz
  omega
section
variable {P : Program} {w : World} {K : PySem.W.Frag} {mg : Str → Option Value} {base : Heap} {A : Ad}

theorem at0_of {ws : List Str} (h0 : 0 < ws.length) : ∃ x, ws[0]? = some x ∧ atI (sv ws) 0 = some (V.str x) := by
  refine ⟨ws[0], List.getElem?_eq_getElem h0, ?_⟩
  show atI _ ((0 : Nat) : Int) = _
  exact atI_nat (by rw [List.getElem?_map, List.getElem?_eq_getElem h0]; rfl)
theorem atR_of {us : List Addr} {i : Nat} {u : Addr} (h : us[i]? = some u) : atI (us.map V.ref) (i : Int) = some (V.ref u) := atI_nat (by rw [List.getElem?_map, h]; rfl)
theorem Lss.ex {f : List V → HO} {H : Hp} {us : List Addr} {ls : List (List Str)} (h : Lss f H us ls) {i : Nat} (hi : i < ls.length) : ∃ u w, us[i]? = some u ∧ ls[i]? = some w ∧ H u = some (f (sv w)) := by
  have hi' : i < us.length := by rw [h.len]; exact hi
  exact ⟨us[i], ls[i], List.getElem?_eq_getElem hi', List.getElem?_eq_getElem hi, h.at_ i _ _ (List.getElem?_eq_getElem hi') (List.getElem?_eq_getElem hi)⟩
/-- read_table of a good text -/
def spRead (C : Addr) : Sp := fun vs H Q _ => ∃ T, vs = [.str T] ∧ T.length ≤ 15100000 ∧ Told (lns T) none ∧
  ∀ p H' ws, GoodT (lns T) ws → Same H H' → Tb C H' p ws.tail ((lns T).tail.map List.tail) → Q (.ref p) H'
theorem ok_read (T : Txt P K mg A) : FnOk P w K mg base CX0 6 A.a_read_table A.d_read_table ["text"] (spRead A.C_Table) := by
  have G_is_columns_line := ok_colsLn (P := P) (w := w) (base := base) T
  have G_is_row_line := ok_rowLn (P := P) (w := w) (base := base) T
  have G_Table_init := ok_table (P := P) (w := w) (base := base) T
  refine T.F_read_table.ok sc_read_table (fun vs H Q E h => ?_) (fun cdv A' outer s H vs Q E hr h => ?_)
  · obtain ⟨X, rfl, hX, hT, kq⟩ := h
    rfl
  · obtain ⟨X, rfl, hX, hT, kq⟩ := h
    refine ⟨_, (pss_cons (ps_setLc (i := 1) (own := [("line", 4)]) (g := gName 4) (tt := tYes) rfl sc_read_table.nd rfl rfl (sw_true rfl rfl rfl (by decide +kernel)) (pi_list (pe_m1 PySem.F.slot_str_split PySem.F.type_str_split mt_split (pv 0) pe_str)) (blkOk_by (N := ["text", "lines", "columns", "number", "line", "words"]) (sc := defScope s_read_table) (by decide +kernel)) (fun _ _ _ _ _ => (pg_name (i := 4) sc_read_table.nd rfl (Or.inl rfl))) (fun _ _ _ _ _ => pts_nil) (fun _ _ _ _ _ => (pe_m1 PySem.F.slot_str_split PySem.F.type_str_split mt_split (pv 4) pe_str)))
      (pss_cons (ps_if (pt_not (pt_val (pe_call G_is_columns_line (hr.mono (by decide)) rfl T.mg_is_columns_line T.F_is_columns_line.kp T.b_is_columns_line .nil pass0 (pa_cons (pe_ix ix_list (pv 1) pe_int (fun _ _ => rfl)) pa_nil)))) (pss_one ps_never) pss_nil)
      (pss_cons (ps_set (i := 2) sc_read_table.nd rfl (Or.inl rfl) (pe_slice sl_list (pe_ix ix_list (pv 1) pe_int (fun _ _ => rfl)) (po_some pe_int) po_none))
      (pss_cons (ps_for PassesOwn.never rfl (pi_range2 (by rfl) T.n_range (pa_cons pe_int (pa_cons (pe_callB call_len_seq (by rfl) T.n_len (by decide +kernel) (pa_cons (pv 1) pa_nil)) pa_nil))) (pg_name (i := 3) sc_read_table.nd rfl (Or.inl rfl))
        (pss_one (ps_if (PW.pt (pw_or (pt_cmpR op_gt (pv 3) (ClX.pe_cval (pe_glob (v := .ref A.C_Table) rfl T.mg_Table rfl)) (nomark _)) (pw_or1 (pt_not (pt_val (pe_call G_is_row_line (hr.mono (by decide)) rfl T.mg_is_row_line T.F_is_row_line.kp T.b_is_row_line .nil pass0 (pa_cons (pv 2) (pa_cons (pe_ix ix_list (pv 1) (pv 3) (fun _ _ => rfl)) pa_nil)))))))) (pss_one ps_never) pss_nil)))
      (pss_one (ps_ret (pe_make T.mk_Table G_Table_init (hr.mono (by decide)) rfl T.mg_Table T.bi .nil pass0 (pa_cons (pv 2) (pa_cons (pe_lc (own := [("words", 5)]) (g := gName 5) (tt := tYes) rfl sc_read_table.nd (pi_list (pe_slice sl_list (pv 1) (po_some pe_int) po_none)) (blkOk_by (N := ["text", "lines", "columns", "number", "line", "words"]) (sc := defScope s_read_table) (by decide +kernel)) (fun _ _ _ _ _ => (pg_name (i := 5) sc_read_table.nd rfl (Or.inl rfl))) (fun _ _ _ _ _ => pts_nil) (fun _ _ _ _ _ => (pe_slice (show SlR _ (rSlL K) from sl_list) (pv 5) (po_some pe_int) po_none))) pa_nil))))))))), ?_⟩
    have hsz : X.length + 2 ≤ sizeLine := Nat.le_trans (Nat.add_le_add_right hX 2) (by decide)
    have hle := lns_le X
    refine ⟨_, rfl, ⟨_, rfl⟩, X, _, rfl, rfl, nl0, hsz, fun p hp => ⟨p, rfl, ⟨_, SqL.of upd_same⟩, fun D hD => lc_it walk_list (fun i H3 => LcL (upd H p (.lst ((Txt.split X "\n").map V.str))) D ((lns X).take i) H3) (lcl0 hD) (fun i H2 _ q => q.1.seq (SqL.of upd_same)) ?_ ?_⟩⟩
    · rintro i x H30 H3 hi q ⟨rfl, hx⟩
      obtain ⟨z, hz, rfl⟩ := sv_get hx
      have hzl := piece_len ls_nl (List.mem_of_getElem? hz)
      refine ⟨rfl, _, rfl, ⟨_, rfl⟩, z, _, rfl, rfl, sp0, by omega, fun a ha => ?_⟩
      have e : (lns X)[i]? = some (Txt.split z " ") := by unfold lns; rw [List.getElem?_map, hz]; rfl
      rw [take_succ e]
      exact q.new hD ha (by rw [List.length_take]; omega)
    rintro H3 ⟨s3, us, hd, hls, hne⟩
    rw [len_sv, ← lns_len, List.take_length] at hls
    have s3 := (same_new hp).trans s3
    clear hne hD
    obtain ⟨u0, w0, eu0, e0, h0⟩ := hls.ex (lns_pos X)
    have at0 : atI (us.map V.ref) 0 = some (V.ref u0) := atR_of eu0
    have lw0 := lns_word (List.mem_of_getElem? e0)
    refine ⟨_, rfl, D, _, _, _, rfl, rfl, SqL.of hd, at0, u0, w0, rfl, SqL.of h0, lw0.1, fun z hz => Nat.le_trans (lw0.2.2 z hz) (by omega), fun H4 b s4 hb => ⟨_, rfl, ?_⟩⟩
    have s34 := s3.trans s4
    have hd := s4 _ _ hd
    have hls := hls.same s4
    have h0 := s4 _ _ h0
    clear s3
    cases b with
    | false =>
      exfalso
      obtain ⟨w1, e1, hc1⟩ := hT.c (fun z => nomatch z)
      rw [e0] at e1
      cases e1
      exact nomatch hb.mpr hc1
    | true =>
    have hc : ColsOk w0 := hb.mp rfl
    refine ifF rfl ?_
    refine ⟨_, rfl, D, _, _, _, rfl, rfl, SqL.of hd, at0, _, rfl, u0, _, rfl, SqL.of h0, fun c hcn => ?_⟩
    rw [cut_tail]
    have s5 := same_new (o := .lst (sv w0.tail)) hcn
    generalize hX5 : upd H4 c _ = H5 at s5
    have hc5 : H5 c = some (.lst (sv w0.tail)) := by rw [← hX5]; exact upd_same
    clear hX5 hcn
    have s35 := s34.trans s5
    have hd := s5 _ _ hd
    have hls := hls.same s5
    clear h0 s34 s4 s5
    have hul : us.length = (lns X).length := hls.len
    obtain ⟨uR, huR⟩ := T.cv_Table_MOST_ROWS
    refine ⟨_, rfl, D, _, rfl, .inl (SqL.of hd), 1, _, rfl, ⟨by decide, by decide, by omega, by rw [List.length_map]; omega⟩, ?_⟩
    have hn : ((((us.map V.ref).length : Nat) : Int) - 1).toNat = (lns X).length - 1 := by rw [List.length_map, hul]; omega
    rw [hn]
    have lp := lns_pos X
    refine for_range (n := (lns X).length - 1) (fun j σ H6 => Same H5 H6 ∧ (∀ i, 0 < i → i ≤ j → ¬ BadLn w0.tail (lns X) i) ∧ ∃ u3 : Option V, σ = [some (.str X), some (.ref D), some (.ref c), u3, none, none]) ⟨Same.refl _, fun i a b => by omega, none, rfl⟩ ?_ ?_
    · rintro j σ H6 hj ⟨s6, hg, u3, rfl⟩
      obtain ⟨u, v, eu, ev, hv⟩ := (hls.same s6).ex (show j + 1 < (lns X).length by omega)
      have hj1 : (1 : Int) + (j : Int) = ((j + 1 : Nat) : Int) := by omega
      have atj : atI (us.map V.ref) (1 + (j : Int)) = some (V.ref u) := by rw [hj1]; exact atR_of eu
      have lv := lns_word (List.mem_of_getElem? ev)
      have hj48 : j ≤ 48 := Nat.le_of_not_lt fun z => hg j (by omega) (Nat.le_refl _) (.inl z)
      refine ⟨_, rfl, _, _, _, _, rfl, T.cr_Table, huR, _, _, rfl, rfl, _, rfl, ?_⟩
      by_cases h48 : (1 : Int) + (j : Int) > 48
      · have hbad : BadLn w0.tail (lns X) (j + 1) := .inl (by omega)
        exact absurd hbad (by have := hT.l (j + 1) (Nat.succ_pos _) (by omega) (fun k z => nomatch z) (fun z => nomatch z); rw [headD_of e0] at this; exact this)
      · refine itN h48 ⟨_, rfl, _, rfl, _, rfl, D, _, _, _, rfl, rfl, SqL.of (s6 _ _ hd), atj, c, u, w0.tail, v, rfl, SqL.of (s6 _ _ hc5), SqL.of hv, lv.1, by omega, fun H7 b7 s7 hb7 => ⟨_, rfl, ?_⟩⟩
        have s67 := s6.trans s7
        cases b7 with
        | true =>
          refine ifF rfl ⟨s67, fun i i0 hi => ?_, _, rfl⟩
          by_cases hij : i ≤ j
          · exact hg i i0 hij
          · have : i = j + 1 := by omega
            subst this
            exact bad_row ev (by omega) (hb7.mp rfl)
        | false =>
          have hbad : BadLn w0.tail (lns X) (j + 1) := .inr ⟨v, ev, fun z => nomatch hb7.mpr z⟩
          exact absurd hbad (by have := hT.l (j + 1) (Nat.succ_pos _) (by omega) (fun k z => nomatch z) (fun z => nomatch z); rw [headD_of e0] at this; exact this)
    · rintro σ H6 ⟨s6, hg, u3, rfl⟩
      obtain ⟨w1, g⟩ := goodT hT
      have : w1 = w0 := by have := g.h0; rw [e0] at this; exact (Option.some.inj this).symm
      subst this
      have hd := s6 _ _ hd
      have hls := hls.same s6
      refine ⟨_, rfl, _, rfl, _, rfl, D, _, rfl, SqL.of hd, fun l hl => ?_⟩
      rw [cut_tailR (by omega)]
      have s7 := same_new (o := .lst (us.tail.map V.ref)) hl
      have hlt := (hls.same s7).tail
      refine ⟨l, rfl, ⟨_, SqL.of upd_same⟩, fun D2 hD2 => lc_it walk_list (fun i H8 => LcL (upd H6 l (.lst (us.tail.map V.ref))) D2 (((lns X).tail.map List.tail).take i) H8) (lcl0 hD2) (fun i H8 _ q => q.1.seq (SqL.of upd_same)) ?_ ?_⟩
      · rintro i x H80 H8 hi q ⟨rfl, hx⟩
        obtain ⟨b, hb, rfl⟩ := refs_get hx
        obtain ⟨y, hy, ho8⟩ := (hlt.same q.1).get hb
        refine ⟨rfl, _, rfl, _, rfl, b, _, rfl, SqL.of ho8, fun a ha => ?_⟩
        rw [cut_tail]
        have e : ((lns X).tail.map List.tail)[i]? = some y.tail := by rw [List.getElem?_map, hy]; rfl
        rw [take_succ e]
        exact q.new hD2 ha (by rw [List.length_take]; have : ((lns X).tail.map List.tail).length ≤ 48 := (by rw [List.length_map, List.length_tail]; have := g.n; omega); omega)
      rintro H8 ⟨s8, us2, hd8, hls8, hne8⟩
      have hlen2 : (us.tail.map V.ref).length = ((lns X).tail.map List.tail).length := by rw [List.length_map, List.length_map, hlt.len]
      rw [hlen2, List.take_length] at hls8
      refine fun t dx nx ndx nex => ?_
      have st : Same H8 (upd (upd H8 dx (HO.own t)) t (HO.ins A.C_Table dx [])) := (same_new ndx).trans (same_new (by rw [upd_ne nex.symm]; exact nx))
      have hc8 := s8 _ _ (s7 _ _ (s6 _ _ hc5))
      refine ⟨t, c, D2, dx, w1.tail, us2, (lns X).tail.map List.tail, rfl, upd_same, st.seq (SqL.of hc8), st.seq (SqL.of hd8), hls8.same st, hc.2.2.1, hc.2.2.2, hc.2.1, by rw [List.length_map, List.length_tail]; have := g.n; omega, g.r, fun H9 sm9 tb => ⟨rfl, ?_⟩⟩
      have s59 : Same H H9 := fun b o' e => by
        have e8 := s8 _ _ (s7 _ _ (s6 _ _ (s35 _ _ e)))
        exact sm9 b o' (ne_of_none e8 nx) (st _ _ e8)
      exact kq t H9 w1 g s59 tb
/-- read_table of any text -/
def spReadX (C B : Addr) : Sp := fun vs H Q E => ∃ T o, vs = [.str T] ∧ T.length ≤ 15100000 ∧ Told (lns T) o ∧
  (o = none → ∀ p H' ws, GoodT (lns T) ws → Same H H' → Tb C H' p ws.tail ((lns T).tail.map List.tail) → Q (.ref p) H') ∧
  ∀ i, o = some i → ∀ d H', Same H H' → H' d = some (.xd [("line", .int (i : Nat))]) → E (.ref B) (some d) H'
theorem ok_readX (T : Txt P K mg A) : FnOk P w K mg base (L2.CX P w) 6 A.a_read_table A.d_read_table ["text"] (spReadX A.C_Table A.C_BadText) := by
  have G_is_columns_line := ok_colsLn (P := P) (w := w) (base := base) T
  have G_is_row_line := ok_rowLn (P := P) (w := w) (base := base) T
  have G_Table_init := ok_table (P := P) (w := w) (base := base) T
  have G_BadText_init := ok_BadText (P := P) (w := w) (base := base) T
  refine funX T.F_read_table sc_read_table (fun vs H Q E h => ?_) (fun cdv A' outer s H vs Q E hr h => ?_)
  · obtain ⟨X, o, rfl, hX, hT, kq, ke⟩ := h
    rfl
  · obtain ⟨X, o, rfl, hX, hT, kq, ke⟩ := h
    refine ⟨_, (pss_cons (ps_setLc (i := 1) (own := [("line", 4)]) (g := gName 4) (tt := tYes) rfl sc_read_table.nd rfl rfl (sw_true rfl rfl rfl (by decide +kernel)) (pi_list (pe_m1 PySem.F.slot_str_split PySem.F.type_str_split mt_split (pv 0) pe_str)) (blkOk_by (N := ["text", "lines", "columns", "number", "line", "words"]) (sc := defScope s_read_table) (by decide +kernel)) (fun _ _ _ _ _ => (pg_name (i := 4) sc_read_table.nd rfl (Or.inl rfl))) (fun _ _ _ _ _ => pts_nil) (fun _ _ _ _ _ => (pe_m1 PySem.F.slot_str_split PySem.F.type_str_split mt_split (pv 4) pe_str)))
      (pss_cons (ps_if (pt_not (pt_val (pe_call G_is_columns_line (hr.mono (by decide)) rfl T.mg_is_columns_line T.F_is_columns_line.kp T.b_is_columns_line .nil pass0 (pa_cons (pe_ix ix_list (pv 1) pe_int (fun _ _ => rfl)) pa_nil)))) (pss_one (ps_raise rfl (takes_of rfl rfl rfl rfl) (pmk_oex T.SC_BadText.ox T.ii_BadText T.ti_BadText G_BadText_init (hr.mono (by decide)) T.b_BadText_init .nil pass0 rfl T.mg_BadText (pa_cons pe_int pa_nil)))) pss_nil)
      (pss_cons (ps_set (i := 2) sc_read_table.nd rfl (Or.inl rfl) (pe_slice sl_list (pe_ix ix_list (pv 1) pe_int (fun _ _ => rfl)) (po_some pe_int) po_none))
      (pss_cons (ps_for (passes_of rfl) rfl (pi_range2 (by rfl) T.n_range (pa_cons pe_int (pa_cons (pe_callB call_len_seq (by rfl) T.n_len (by decide +kernel) (pa_cons (pv 1) pa_nil)) pa_nil))) (pg_name (i := 3) sc_read_table.nd rfl (Or.inl rfl))
        (pss_one (ps_if (PW.pt (pw_or (pt_cmpR op_gt (pv 3) (ClX.pe_cval (pe_glob (v := .ref A.C_Table) rfl T.mg_Table rfl)) (nomark _)) (pw_or1 (pt_not (pt_val (pe_call G_is_row_line (hr.mono (by decide)) rfl T.mg_is_row_line T.F_is_row_line.kp T.b_is_row_line .nil pass0 (pa_cons (pv 2) (pa_cons (pe_ix ix_list (pv 1) (pv 3) (fun _ _ => rfl)) pa_nil)))))))) (pss_one (ps_raise rfl (takes_of rfl rfl rfl rfl) (pmk_oex T.SC_BadText.ox T.ii_BadText T.ti_BadText G_BadText_init (hr.mono (by decide)) T.b_BadText_init .nil pass0 rfl T.mg_BadText (pa_cons (pv 3) pa_nil)))) pss_nil)))
      (pss_one (ps_ret (pe_make T.mk_Table G_Table_init (hr.mono (by decide)) rfl T.mg_Table T.bi .nil pass0 (pa_cons (pv 2) (pa_cons (pe_lc (own := [("words", 5)]) (g := gName 5) (tt := tYes) rfl sc_read_table.nd (pi_list (pe_slice sl_list (pv 1) (po_some pe_int) po_none)) (blkOk_by (N := ["text", "lines", "columns", "number", "line", "words"]) (sc := defScope s_read_table) (by decide +kernel)) (fun _ _ _ _ _ => (pg_name (i := 5) sc_read_table.nd rfl (Or.inl rfl))) (fun _ _ _ _ _ => pts_nil) (fun _ _ _ _ _ => (pe_slice (show SlR _ (rSlL K) from sl_list) (pv 5) (po_some pe_int) po_none))) pa_nil))))))))), ?_⟩
    have hsz : X.length + 2 ≤ sizeLine := Nat.le_trans (Nat.add_le_add_right hX 2) (by decide)
    have hle := lns_le X
    refine ⟨_, rfl, ⟨_, rfl⟩, X, _, rfl, rfl, nl0, hsz, fun p hp => ⟨p, rfl, ⟨_, SqL.of upd_same⟩, fun D hD => lc_it walk_list (fun i H3 => LcL (upd H p (.lst ((Txt.split X "\n").map V.str))) D ((lns X).take i) H3) (lcl0 hD) (fun i H2 _ q => q.1.seq (SqL.of upd_same)) ?_ ?_⟩⟩
    · rintro i x H30 H3 hi q ⟨rfl, hx⟩
      obtain ⟨z, hz, rfl⟩ := sv_get hx
      have hzl := piece_len ls_nl (List.mem_of_getElem? hz)
      refine ⟨rfl, _, rfl, ⟨_, rfl⟩, z, _, rfl, rfl, sp0, by omega, fun a ha => ?_⟩
      have e : (lns X)[i]? = some (Txt.split z " ") := by unfold lns; rw [List.getElem?_map, hz]; rfl
      rw [take_succ e]
      exact q.new hD ha (by rw [List.length_take]; omega)
    rintro H3 ⟨s3, us, hd, hls, hne⟩
    rw [len_sv, ← lns_len, List.take_length] at hls
    have s3 := (same_new hp).trans s3
    clear hne hD
    obtain ⟨u0, w0, eu0, e0, h0⟩ := hls.ex (lns_pos X)
    have at0 : atI (us.map V.ref) 0 = some (V.ref u0) := atR_of eu0
    have lw0 := lns_word (List.mem_of_getElem? e0)
    refine ⟨_, rfl, D, _, _, _, rfl, rfl, SqL.of hd, at0, u0, w0, rfl, SqL.of h0, lw0.1, fun z hz => Nat.le_trans (lw0.2.2 z hz) (by omega), fun H4 b s4 hb => ⟨_, rfl, ?_⟩⟩
    have s34 := s3.trans s4
    have hd := s4 _ _ hd
    have hls := hls.same s4
    have h0 := s4 _ _ h0
    clear s3
    cases b with
    | false =>
      have hT0 := told_0 e0 fun z => nomatch hb.mpr z
      cases hT.uniq hT0
      exact ifT rfl ⟨(by decide : 1 ≤ 1000), fun a ha => ⟨a, _, rfl, ⟨_, rfl, by decide⟩, upd_same, fun d hd hne => ⟨rfl, d, _, upd_same, by rw [upd_ne hne, upd_same], by rw [upd_ne hne] at hd; exact hd, by
        rw [upd_ne hne] at hd
        exact ke 0 rfl d _ (s34.trans (exc_same ha hd)) upd_same⟩⟩⟩
    | true =>
    have hc : ColsOk w0 := hb.mp rfl
    refine ifF rfl ?_
    refine ⟨_, rfl, D, _, _, _, rfl, rfl, SqL.of hd, at0, _, rfl, u0, _, rfl, SqL.of h0, fun c hcn => ?_⟩
    rw [cut_tail]
    have s5 := same_new (o := .lst (sv w0.tail)) hcn
    generalize hX5 : upd H4 c _ = H5 at s5
    have hc5 : H5 c = some (.lst (sv w0.tail)) := by rw [← hX5]; exact upd_same
    clear hX5 hcn
    have s35 := s34.trans s5
    have hd := s5 _ _ hd
    have hls := hls.same s5
    clear h0 s34 s4 s5
    have hul : us.length = (lns X).length := hls.len
    obtain ⟨uR, huR⟩ := T.cv_Table_MOST_ROWS
    refine ⟨_, rfl, D, _, rfl, .inl (SqL.of hd), 1, _, rfl, ⟨by decide, by decide, by omega, by rw [List.length_map]; omega⟩, ?_⟩
    have hn : ((((us.map V.ref).length : Nat) : Int) - 1).toNat = (lns X).length - 1 := by rw [List.length_map, hul]; omega
    rw [hn]
    have lp := lns_pos X
    refine for_range (n := (lns X).length - 1) (fun j σ H6 => Same H5 H6 ∧ (∀ i, 0 < i → i ≤ j → ¬ BadLn w0.tail (lns X) i) ∧ ∃ u3 : Option V, σ = [some (.str X), some (.ref D), some (.ref c), u3, none, none]) ⟨Same.refl _, fun i a b => by omega, none, rfl⟩ ?_ ?_
    · rintro j σ H6 hj ⟨s6, hg, u3, rfl⟩
      obtain ⟨u, v, eu, ev, hv⟩ := (hls.same s6).ex (show j + 1 < (lns X).length by omega)
      have hj1 : (1 : Int) + (j : Int) = ((j + 1 : Nat) : Int) := by omega
      have atj : atI (us.map V.ref) (1 + (j : Int)) = some (V.ref u) := by rw [hj1]; exact atR_of eu
      have lv := lns_word (List.mem_of_getElem? ev)
      have hj48 : j ≤ 48 := Nat.le_of_not_lt fun z => hg j (by omega) (Nat.le_refl _) (.inl z)
      refine ⟨_, rfl, _, _, _, _, rfl, T.cr_Table, huR, _, _, rfl, rfl, _, rfl, ?_⟩
      by_cases h48 : (1 : Int) + (j : Int) > 48
      · have hbad : BadLn w0.tail (lns X) (j + 1) := .inl (by omega)
        refine itY h48 ?_
        have hT1 := told_k e0 hc (Nat.succ_pos _) (show j + 1 < (lns X).length by omega) hbad fun i i0 hi => hg i i0 (by omega)
        cases hT.uniq hT1
        exact ifT rfl ⟨_, rfl, (by decide : 1 ≤ 1000), fun a ha => ⟨a, _, rfl, ⟨_, rfl, by omega⟩, upd_same, fun d hd hne => ⟨rfl, d, _, upd_same, by rw [upd_ne hne, upd_same], by rw [upd_ne hne] at hd; exact hd, by
          rw [upd_ne hne] at hd
          rw [hj1]
          exact ke (j + 1) rfl d _ ((s35.trans s6).trans (exc_same ha hd)) upd_same⟩⟩⟩
      · refine itN h48 ⟨_, rfl, _, rfl, _, rfl, D, _, _, _, rfl, rfl, SqL.of (s6 _ _ hd), atj, c, u, w0.tail, v, rfl, SqL.of (s6 _ _ hc5), SqL.of hv, lv.1, by omega, fun H7 b7 s7 hb7 => ⟨_, rfl, ?_⟩⟩
        have s67 := s6.trans s7
        cases b7 with
        | true =>
          refine ifF rfl ⟨s67, fun i i0 hi => ?_, _, rfl⟩
          by_cases hij : i ≤ j
          · exact hg i i0 hij
          · have : i = j + 1 := by omega
            subst this
            exact bad_row ev (by omega) (hb7.mp rfl)
        | false =>
          have hbad : BadLn w0.tail (lns X) (j + 1) := .inr ⟨v, ev, fun z => nomatch hb7.mpr z⟩
          have hT1 := told_k e0 hc (Nat.succ_pos _) (show j + 1 < (lns X).length by omega) hbad fun i i0 hi => hg i i0 (by omega)
          cases hT.uniq hT1
          exact ifT rfl ⟨_, rfl, (by decide : 1 ≤ 1000), fun a ha => ⟨a, _, rfl, ⟨_, rfl, by omega⟩, upd_same, fun d hd hne => ⟨rfl, d, _, upd_same, by rw [upd_ne hne, upd_same], by rw [upd_ne hne] at hd; exact hd, by
            rw [upd_ne hne] at hd
            rw [hj1]
            exact ke (j + 1) rfl d _ ((s35.trans s67).trans (exc_same ha hd)) upd_same⟩⟩⟩
    · rintro σ H6 ⟨s6, hg, u3, rfl⟩
      have hT1 : Told (lns X) none := told_no e0 hc fun i i0 hi => hg i i0 (by omega)
      cases hT.uniq hT1
      obtain ⟨w1, g⟩ := goodT hT
      have : w1 = w0 := by have := g.h0; rw [e0] at this; exact (Option.some.inj this).symm
      subst this
      have hd := s6 _ _ hd
      have hls := hls.same s6
      refine ⟨_, rfl, _, rfl, _, rfl, D, _, rfl, SqL.of hd, fun l hl => ?_⟩
      rw [cut_tailR (by omega)]
      have s7 := same_new (o := .lst (us.tail.map V.ref)) hl
      have hlt := (hls.same s7).tail
      refine ⟨l, rfl, ⟨_, SqL.of upd_same⟩, fun D2 hD2 => lc_it walk_list (fun i H8 => LcL (upd H6 l (.lst (us.tail.map V.ref))) D2 (((lns X).tail.map List.tail).take i) H8) (lcl0 hD2) (fun i H8 _ q => q.1.seq (SqL.of upd_same)) ?_ ?_⟩
      · rintro i x H80 H8 hi q ⟨rfl, hx⟩
        obtain ⟨b, hb, rfl⟩ := refs_get hx
        obtain ⟨y, hy, ho8⟩ := (hlt.same q.1).get hb
        refine ⟨rfl, _, rfl, _, rfl, b, _, rfl, SqL.of ho8, fun a ha => ?_⟩
        rw [cut_tail]
        have e : ((lns X).tail.map List.tail)[i]? = some y.tail := by rw [List.getElem?_map, hy]; rfl
        rw [take_succ e]
        exact q.new hD2 ha (by rw [List.length_take]; have : ((lns X).tail.map List.tail).length ≤ 48 := (by rw [List.length_map, List.length_tail]; have := g.n; omega); omega)
      rintro H8 ⟨s8, us2, hd8, hls8, hne8⟩
      have hlen2 : (us.tail.map V.ref).length = ((lns X).tail.map List.tail).length := by rw [List.length_map, List.length_map, hlt.len]
      rw [hlen2, List.take_length] at hls8
      refine fun t dx nx ndx nex => ?_
      have st : Same H8 (upd (upd H8 dx (HO.own t)) t (HO.ins A.C_Table dx [])) := (same_new ndx).trans (same_new (by rw [upd_ne nex.symm]; exact nx))
      have hc8 := s8 _ _ (s7 _ _ (s6 _ _ hc5))
      refine ⟨t, c, D2, dx, w1.tail, us2, (lns X).tail.map List.tail, rfl, upd_same, st.seq (SqL.of hc8), st.seq (SqL.of hd8), hls8.same st, hc.2.2.1, hc.2.2.2, hc.2.1, by rw [List.length_map, List.length_tail]; have := g.n; omega, g.r, fun H9 sm9 tb => ⟨rfl, ?_⟩⟩
      have s59 : Same H H9 := fun b o' e => by
        have e8 := s8 _ _ (s7 _ _ (s6 _ _ (s35 _ _ e)))
        exact sm9 b o' (ne_of_none e8 nx) (st _ _ e8)
      exact kq rfl t H9 w1 g s59 tb
end
end My
set_option maxRecDepth 100000
set_option maxHeartbeats 4000000
namespace My
open PySem L2
theorem wrL_snoc (cs : List Str) (rs : List (List Str)) (r : List Str) : wrL cs (rs ++ [r]) = wrL cs rs ++ [Txt.join " " ("row" :: r)] := by
  unfold wrL; rw [List.map_append]; rfl
theorem lw_row : ("row" : Str).length = 3 := by decide
theorem lw_col : ("columns" : Str).length = 7 := by decide
/-- a line of short words -/
theorem line_fit {x : Str} {ws : List Str} (hx : x.length ≤ 8) (h : ∀ z ∈ ws, z.length ≤ 8) (hn : ws.length ≤ 12) :
    (((x :: ws).map (·.length)).sum + (x :: ws).length * (" " : Str).length ≤ 16777216) ∧ (Txt.join " " (x :: ws)).length ≤ 117 := by
  have := fits_join (a := (" " : Str)) (ys := x :: ws) (B := 8) (n := 13) (fun y hy => by
    rcases List.mem_cons.mp hy with rfl | hy
    · exact hx
    · exact h y hy) (by rw [List.length_cons]; omega) (by rw [ls_sp]; decide)
  rw [ls_sp] at this
  exact this
/-- short tables: a bound of the written text -/
structure Short (cs : List Str) (rs : List (List Str)) : Prop where
  c : ∀ z ∈ cs, z.length ≤ 8
  n : cs.length ≤ 12
  r : ∀ x ∈ rs, x.length ≤ 12 ∧ ∀ z ∈ x, z.length ≤ 8
  m : rs.length ≤ 48
theorem Short.fit {cs : List Str} {rs : List (List Str)} (h : Short cs rs) : ((wrL cs rs).map (·.length)).sum + (wrL cs rs).length * ("\n" : Str).length ≤ 16777216 ∧ (wr cs rs).length ≤ 5782 := by
  have := fits_join (a := ("\n" : Str)) (ys := wrL cs rs) (B := 117) (n := 49) (fun y hy => by
    unfold wrL at hy
    rcases List.mem_cons.mp hy with rfl | hy
    · exact (line_fit (by decide) h.c h.n).2
    · obtain ⟨x, hx, rfl⟩ := List.mem_map.mp hy
      exact (line_fit (by decide) (h.r x hx).2 (h.r x hx).1).2) (by unfold wrL; rw [List.length_cons, List.length_map]; have := h.m; omega) (by rw [ls_nl]; decide)
  rw [ls_nl] at this
  exact ⟨by rw [ls_nl]; exact this.1, this.2⟩
theorem wrL_len (cs : List Str) (rs : List (List Str)) : (wrL cs rs).length = rs.length + 1 := by
  unfold wrL; rw [List.length_cons, List.length_map]
section
variable {P : Program} {w : World} {K : PySem.W.Frag} {mg : Str → Option Value} {base : Heap} {A : Ad}
def spText (C : Addr) : Sp := fun vs H Q _ => ∃ p cs rs, vs = [.ref p] ∧ Tb C H p cs rs ∧ Short cs (rs.map (canon cs)) ∧ ∀ H', Same H H' → Q (.str (wr cs (rs.map (canon cs)))) H'
theorem ok_text (T : Txt P K mg A) : FnOk P w K mg base CX0 1 A.a_table_text A.d_table_text ["table"] (spText A.C_Table) := by
  refine T.F_table_text.ok sc_table_text (fun vs H Q E h => ?_) (fun cdv A' outer s H vs Q E hr h => ?_)
  · obtain ⟨p, cs, rs, rfl, _⟩ := h
    rfl
  · obtain ⟨p, cs, rs, rfl, hT, sh, k⟩ := h
    refine ⟨_, (pss_cons (ps_set (i := 1) sc_table_text.nd rfl (Or.inl rfl) (pe_lst (pa_cons (pe_join pe_str (pe_lst (pa_cons pe_str (StX.pa_star (pe_fld (pv 0) rfl) pa_nil)))) pa_nil)))
      (pss_cons (ps_for PassesOwn.never rfl (pi_tup (pe_fld (pv 0) rfl)) (pg_name (i := 2) sc_table_text.nd rfl (Or.inl rfl))
        (pss_one (ps_expr (pe_bm PySem.F.plainAttrs_list PySem.F.slot_list_append PySem.F.type_list_append mt_append (pv 1) (pa_cons (pe_join pe_str (pe_lst (pa_cons pe_str (StX.pa_star (pv 2) pa_nil)))) pa_nil)))))
      (pss_one (ps_ret (pe_join pe_str (pv 1)))))), ?_⟩
    obtain ⟨dx, ct, rt, ts, h1, hc, hr2, hts⟩ := hT
    generalize hq : rs.map (canon cs) = qs at hts sh k
    have hn := sh.n
    have f1 := line_fit (x := "columns") (by decide) sh.c hn
    refine ⟨⟨_, rfl⟩, _, rfl, _, _, _, _, _, rfl, h1, T.cl_Table, T.n_Table_columns, fldsT_columns _ _, ct, _, rfl, .inl (SqT.of hc), ?_, fun l hl => ?_⟩
    · show (sv cs ++ []).length + 1 ≤ sizeLine
      rw [List.append_nil, len_sv]
      exact Nat.le_trans (Nat.add_le_add_right hn 1) (by decide)
    refine ⟨_, l, ("columns" : Str) :: cs, rfl, rfl, .inl (SqL.of (by rw [upd_same]; show some (HO.lst (V.str "columns" :: (sv cs ++ []))) = _; rw [List.append_nil]; rfl)), f1.1, by show 1 ≤ sizeLine; decide, fun L hL => ?_⟩
    have s1 : Same H (upd H l (.lst (sv (("columns" : Str) :: cs)))) := same_new hl
    have sL : Same H (upd (upd H l (.lst (V.str "columns" :: (sv cs ++ [])))) L (.lst [V.str (Txt.join " " (("columns" : Str) :: cs))])) := (same_new hl).trans (same_new hL)
    have hL2 := upd_same (H := upd H l (.lst (V.str "columns" :: (sv cs ++ [])))) (a := L) (o := .lst [V.str (Txt.join " " (("columns" : Str) :: cs))])
    refine ⟨_, rfl, p, _, dx, _, _, rfl, sL _ _ h1, T.cl_Table, T.n_Table_rows, fldsT_rows _ _, rt, rfl, ⟨_, SqT.of (sL _ _ hr2)⟩,
      for_it walk_tup (fun i σ H6 => Same H H6 ∧ (∀ b, H b ≠ none → b ≠ L) ∧ H6 L = some (.lst (sv (wrL cs (qs.take i)))) ∧ ∃ u2 : Option V, σ = [some (.ref p), some (.ref L), u2])
      ⟨sL, fun b hb e => ?_, by rw [hL2]; rfl, none, rfl⟩ (fun i σ H6 _ q => q.1.tup (SqT.of hr2)) ?_ ?_⟩
    · subst e
      rw [upd_ne (fun e => by subst e; rw [upd_same] at hL; cases hL)] at hL
      exact hb hL
    · rintro i x σ H60 H6 hi ⟨s6, hne, h6, u2, rfl⟩ ⟨rfl, hx⟩
      obtain ⟨t, ht, rfl⟩ := refs_get hx
      obtain ⟨r, hr', hto⟩ := (hts.same s6).get ht
      have sr := sh.r r (List.mem_of_getElem? hr')
      have f2 := line_fit (x := "row") (by decide) sr.2 sr.1
      have hm := sh.m
      refine ⟨_, rfl, .inl ⟨rfl, _, SqL.of h6⟩, ⟨_, rfl⟩, _, rfl, t, _, rfl, .inl (SqT.of hto), ?_, fun a ha => ?_⟩
      · show (sv r ++ []).length + 1 ≤ sizeLine
        rw [List.append_nil, len_sv]
        exact Nat.le_trans (Nat.add_le_add_right sr.1 1) (by decide)
      refine ⟨_, a, ("row" : Str) :: r, rfl, rfl, .inl (SqL.of (by rw [upd_same]; show some (HO.lst (V.str "row" :: (sv r ++ []))) = _; rw [List.append_nil]; rfl)), f2.1, L, _, _, rfl, rfl, same_new ha _ _ h6, small_int ?_, ?_, hne, ?_, _, rfl⟩
      · rw [len_sv, wrL_len, List.length_take]; omega
      · intro b o e
        rw [upd_ne (hne b (by rw [e]; exact fun z => nomatch z))]
        exact same_new ha _ _ (s6 _ _ e)
      · rw [upd_same, take_succ hr', wrL_snoc, sv_snoc]
    · rintro σ H6 ⟨s6, hne, h6, u2, rfl⟩
      rw [List.length_map, hts.len, List.take_length] at h6
      exact ⟨⟨_, rfl⟩, _, rfl, _, L, _, rfl, rfl, .inl (SqL.of h6), sh.fit.1, k _ s6⟩
def spWritten (K : PySem.W.Frag) : Sp := fun vs H Q _ => ∃ c r cs ts rs, vs = [.ref c, .ref r] ∧ H c = some (.lst (sv cs)) ∧ SqL K H r (ts.map V.ref) ∧ Lss .lst H ts rs ∧ Short cs rs ∧ ∀ H', Same H H' → Q (.str (wr cs rs)) H'
theorem ok_written (T : Txt P K mg A) : FnOk P w K mg base CX0 1 A.a_law_written A.d_law_written ["columns", "rows"] (spWritten K) := by
  refine T.F_law_written.ok sc_law_written (fun vs H Q E h => ?_) (fun cdv A' outer s H vs Q E hr h => ?_)
  · obtain ⟨c, r, cs, ts, rs, rfl, _⟩ := h
    rfl
  · obtain ⟨c, r, cs, ts, rs, rfl, hc, hr2, hts, sh, k⟩ := h
    refine ⟨_, (pss_cons (ps_set (i := 2) sc_law_written.nd rfl (Or.inl rfl) (pe_lst (pa_cons (pe_join pe_str (pe_op op_cat (pe_lst (pa_cons pe_str pa_nil)) (pv 0))) pa_nil)))
      (pss_cons (ps_for PassesOwn.never rfl (pi_list (pv 1)) (pg_name (i := 3) sc_law_written.nd rfl (Or.inl rfl))
        (pss_one (ps_expr (pe_bm PySem.F.plainAttrs_list PySem.F.slot_list_append PySem.F.type_list_append mt_append (pv 2) (pa_cons (pe_join pe_str (pe_op op_cat (pe_lst (pa_cons pe_str pa_nil)) (pv 3))) pa_nil)))))
      (pss_one (ps_ret (pe_join pe_str (pv 2)))))), ?_⟩
    have hn := sh.n
    have f1 := line_fit (x := "columns") (by decide) sh.c hn
    refine ⟨⟨_, rfl⟩, by show 1 ≤ sizeLine; decide, fun l1 hl1 => ⟨_, rfl, l1, c, _, _, rfl, rfl, upd_same, same_new hl1 _ _ hc, ?_, fun l hl => ?_⟩⟩
    · rw [len_sv]
      exact Nat.le_trans (Nat.add_le_add_left hn 1) (by decide)
    refine ⟨_, l, ("columns" : Str) :: cs, rfl, rfl, .inl (SqL.of (by rw [upd_same]; rfl)), f1.1, by show 1 ≤ sizeLine; decide, fun L hL => ?_⟩
    have s2 : Same H (upd (upd H l1 (.lst [V.str "columns"])) l (.lst ([V.str "columns"] ++ sv cs))) := (same_new hl1).trans (same_new hl)
    have sL := s2.trans (same_new (o := .lst [V.str (Txt.join " " (("columns" : Str) :: cs))]) hL)
    have hL2 := upd_same (H := upd (upd H l1 (.lst [V.str "columns"])) l (.lst ([V.str "columns"] ++ sv cs))) (a := L) (o := .lst [V.str (Txt.join " " (("columns" : Str) :: cs))])
    have hne : ∀ b, H b ≠ none → b ≠ L := fun b hb e => by
      subst e
      cases e2 : H b with
      | none => exact hb e2
      | some o => rw [s2 _ _ e2] at hL; cases hL
    refine ⟨_, rfl, r, rfl, ⟨_, sL.seq hr2⟩,
      for_it walk_list (fun i σ H6 => Same H H6 ∧ H6 L = some (.lst (sv (wrL cs (rs.take i)))) ∧ ∃ u2 : Option V, σ = [some (.ref c), some (.ref r), some (.ref L), u2])
      ⟨sL, by rw [hL2]; rfl, none, rfl⟩ (fun i σ H6 _ q => q.1.seq hr2) ?_ ?_⟩
    · rintro i x σ H60 H6 hi ⟨s6, h6, u2, rfl⟩ ⟨rfl, hx⟩
      obtain ⟨t, ht, rfl⟩ := refs_get hx
      obtain ⟨y, hy, hto⟩ := (hts.same s6).get ht
      have sr := sh.r y (List.mem_of_getElem? hy)
      have f2 := line_fit (x := "row") (by decide) sr.2 sr.1
      have hm := sh.m
      refine ⟨_, rfl, .inl ⟨rfl, _, SqL.of h6⟩, ⟨_, rfl⟩, by show 1 ≤ sizeLine; decide, fun a1 ha1 => ⟨_, rfl, a1, t, _, _, rfl, rfl, upd_same, same_new ha1 _ _ hto, ?_, fun a ha => ?_⟩⟩
      · rw [len_sv]
        exact Nat.le_trans (Nat.add_le_add_left sr.1 1) (by decide)
      have s8 := (same_new (o := .lst [V.str "row"]) ha1).trans (same_new (o := .lst ([V.str "row"] ++ sv y)) ha)
      refine ⟨_, a, ("row" : Str) :: y, rfl, rfl, .inl (SqL.of (by rw [upd_same]; rfl)), f2.1, L, _, _, rfl, rfl, s8 _ _ h6, small_int ?_, ?_, ?_, _, rfl⟩
      · rw [len_sv, wrL_len, List.length_take]; omega
      · intro b o e
        rw [upd_ne (hne b (by rw [e]; exact fun z => nomatch z))]
        exact s8 _ _ (s6 _ _ e)
      · rw [upd_same, take_succ hy, wrL_snoc, sv_snoc]
    · rintro σ H6 ⟨s6, h6, u2, rfl⟩
      rw [List.length_map, hts.len, List.take_length] at h6
      exact ⟨⟨_, rfl⟩, _, rfl, _, L, _, rfl, rfl, .inl (SqL.of h6), sh.fit.1, k _ s6⟩
end
end My
set_option maxRecDepth 100000
set_option maxHeartbeats 4000000
set_option exponentiation.threshold 10000
namespace My
open PySem L2
theorem mulW {i j : Int} (hi : i.natAbs < 2 ^ 9000) (hj : j.natAbs < 2 ^ 9000) : CMulW i j := wide_mul hi hj (by decide) (by decide) (by decide)
theorem atI_ok {xs : List Int} {j : Int} (h0 : 0 ≤ j) (h1 : j < xs.length) : ∃ v, v ∈ xs ∧ atI (xs.map V.int) j = some (V.int v) := by
  have hj : j.toNat < xs.length := by omega
  refine ⟨xs[j.toNat], List.getElem_mem hj, ?_⟩
  have e : (xs.map V.int)[j.toNat]? = some (V.int xs[j.toNat]) := by rw [List.getElem?_map, List.getElem?_eq_getElem hj]; rfl
  have := atI_nat e
  rw [show ((j.toNat : Nat) : Int) = j by omega] at this
  exact this
theorem len_map_int (xs : List Int) : (xs.map V.int).length = xs.length := List.length_map ..
/-- a pool of draws -/
def Pool (ns : List Int) : Prop := ∀ x ∈ ns, 0 ≤ x ∧ x < 27720
theorem Pool.nil : Pool [] := fun x h => nomatch h
theorem Pool.app {ns : List Int} {x : Int} (h : Pool ns) (h0 : 0 ≤ x) (h1 : x < 27720) : Pool (ns ++ [x]) := fun y hy => by
  rcases List.mem_append.mp hy with hy | hy
  · exact h y hy
  · cases List.mem_singleton.mp hy; exact ⟨h0, h1⟩
theorem upd_app {H : Hp} {l : Addr} {ps : List Int} {x : Int} : upd (upd H l (.lst (ps.map V.int))) l (.lst (ps.map V.int ++ [V.int x])) = upd H l (.lst ((ps ++ [x]).map V.int)) := by
  rw [upd_upd, List.map_append]
  rfl
theorem mod_sz {x m : Int} {k : Nat} (h : 0 < m) (hk : m.natAbs < 2 ^ k) : (x % m).natAbs < 2 ^ k := by
  have h1 := Int.emod_nonneg x (Int.ne_of_gt h)
  have h2 := Int.emod_lt_of_pos x h
  omega
def spCell (K : PySem.W.Frag) : Sp := fun vs H Q _ => ∃ (a : Addr) (ns : List Int) (k : Int), vs = [.ref a, .int k] ∧ SqL K H a (ns.map V.int) ∧ 0 ≤ k ∧ ∀ z, Q (.int z) H
def spPool (K : PySem.W.Frag) : Sp := fun vs H Q _ => ∃ (a : Addr) (ns : List Int) (k c : Int), vs = [.ref a, .int k, .int c] ∧ SqL K H a (ns.map V.int) ∧ 0 ≤ k ∧ 0 ≤ c ∧ c ≤ 1000 ∧
  ∀ p ps H', Same H H' → H' p = some (.lst (ps.map V.int)) → (ps.length : Int) = c → Pool ps → Q (.ref p) H'
section
variable {P : Program} {w : World} {K : PySem.W.Frag} {mg : Str → Option Value} {base : Heap} {A : Ad}
theorem ok_cell (T : Txt P K mg A) : FnOk P w K mg base CX0 1 A.a_law_cell A.d_law_cell ["script", "k"] (spCell K) := by
  refine T.F_law_cell.ok sc_law_cell (fun vs H Q E h => ?_) (fun cdv A' outer s H vs Q E hr h => ?_)
  · obtain ⟨a, ns, k, rfl, _⟩ := h
    rfl
  · obtain ⟨a, ns, i, rfl, hS, h0, k⟩ := h
    refine ⟨_, (pss_cons (ps_if (pt_cmpR op_lt (pv 1) (pe_callB call_len_seq (by rfl) T.n_len (by decide +kernel) (pa_cons (pv 0) pa_nil)) (nomark _)) (pss_one (ps_ret (pe_ix ix_list (pv 0) (pv 1) (fun _ _ => rfl)))) pss_nil)
      (pss_one (ps_ret pe_int))), ?_⟩
    refine ⟨_, rfl, _, rfl, _, _, rfl, .inl hS, _, _, rfl, rfl, _, rfl, ?_⟩
    by_cases hi : i < ((ns.map V.int).length : Int)
    · refine itY hi ?_
      obtain ⟨v, hv, e⟩ := atI_ok (xs := ns) h0 (by rw [len_map_int] at hi; exact hi)
      exact ⟨_, rfl, _, rfl, _, _, _, _, rfl, rfl, hS, e, k v⟩
    · refine itN hi ?_
      exact k 0
theorem ok_pool (T : Txt P K mg A) : FnOk P w K mg base CX0 2 A.a_law_pool A.d_law_pool ["script", "k", "count"] (spPool K) := by
  have G_law_cell : FnOk P w K mg base CX0 1 A.a_law_cell A.d_law_cell ["script", "k"] (spCell K) := ok_cell T
  refine T.F_law_pool.ok sc_law_pool (fun vs H Q E h => ?_) (fun cdv A' outer s H vs Q E hr h => ?_)
  · obtain ⟨a, ns, k, c, rfl, _⟩ := h
    rfl
  · obtain ⟨a, ns, i, c, rfl, hS, h0, hc0, hc, k⟩ := h
    refine ⟨_, (pss_cons (ps_set (i := 3) sc_law_pool.nd rfl (Or.inl rfl) (pe_callB call_abs (by rfl) T.n_abs (by decide +kernel) (pa_cons (pe_call G_law_cell (hr.mono (by decide)) rfl T.mg_law_cell T.F_law_cell.kp T.b_law_cell .nil pass0 (pa_cons (pv 0) (pa_cons (pv 1) pa_nil))) pa_nil)))
      (pss_cons (ps_set (i := 4) sc_law_pool.nd rfl (Or.inl rfl) (pe_lst pa_nil))
      (pss_cons (ps_if (pt_cmpR op_ge (pv 3) (pe_op op_pow pe_int pe_int) (nomark _)) (pss_cons (ps_set (i := 3) sc_law_pool.nd rfl (Or.inl rfl) (pe_op op_sub (pv 3) (pe_op op_pow pe_int pe_int)))
      (pss_cons (ps_for PassesOwn.never rfl (pi_range1 (by rfl) T.n_range (pa_cons (pv 2) pa_nil)) (pg_name (i := 5) sc_law_pool.nd rfl (Or.inl rfl))
        (pss_cons (ps_expr (pe_bm PySem.F.plainAttrs_list PySem.F.slot_list_append PySem.F.type_list_append mt_append (pv 4) (pa_cons (pe_op op_mod (pe_callTy call_int1 (by rfl) T.n_int (by decide +kernel) (pa_cons (pv 3) pa_nil)) pe_int) pa_nil)))
      (pss_one (ps_set (i := 3) sc_law_pool.nd rfl (Or.inl rfl) (pe_op op_fdiv (pv 3) pe_int)))))
      (pss_one (ps_ret (pv 4))))) pss_nil)
      (pss_cons (ps_for PassesOwn.never rfl (pi_range1 (by rfl) T.n_range (pa_cons (pv 2) pa_nil)) (pg_name (i := 5) sc_law_pool.nd rfl (Or.inl rfl))
        (pss_cons (ps_set (i := 6) sc_law_pool.nd rfl (Or.inl rfl) (pe_op op_mod (pe_callTy call_int1 (by rfl) T.n_int (by decide +kernel) (pa_cons (pe_op op_add (pe_op op_add (pe_op op_add (pe_op op_mul (pv 3) pe_int) (pe_op op_mul (pe_op op_add (pv 5) pe_int) pe_int)) (pe_op op_mul (pv 1) pe_int)) pe_int) pa_nil)) pe_int))
      (pss_cons (ps_set (i := 7) sc_law_pool.nd rfl (Or.inl rfl) (pe_op op_mod (pe_callTy call_int1 (by rfl) T.n_int (by decide +kernel) (pa_cons (pe_op op_add (pe_op op_add (pe_op op_mulW (pv 6) (pv 6)) (pe_op op_mul (pv 3) pe_int)) (pv 5)) pa_nil)) pe_int))
      (pss_cons (ps_set (i := 8) sc_law_pool.nd rfl (Or.inl rfl) (pe_op op_mod (pe_callTy call_int1 (by rfl) T.n_int (by decide +kernel) (pa_cons (pe_op op_add (pe_op op_mulW (pv 7) (pv 7)) (pv 6)) pa_nil)) pe_int))
      (pss_one (ps_expr (pe_bm PySem.F.plainAttrs_list PySem.F.slot_list_append PySem.F.type_list_append mt_append (pv 4) (pa_cons (pe_op op_mod (pe_callTy call_int1 (by rfl) T.n_int (by decide +kernel) (pa_cons (pe_op op_fdiv (pv 8) pe_int) pa_nil)) pe_int) pa_nil))))))))
      (pss_one (ps_ret (pv 4))))))), ?_⟩
    refine ⟨_, rfl, _, rfl, a, ns, i, rfl, hS, h0, fun z => ⟨_, rfl, ?_⟩⟩
    refine ⟨by show 0 ≤ sizeLine; decide, fun l hl => ?_⟩
    refine ⟨_, rfl, _, _, rfl, rfl, ⟨by decide, by decide, by decide⟩, _, _, rfl, rfl, _, rfl, ?_⟩
    have fin : ∀ ps : List Int, ps.length = c.toNat → Pool ps → Q (.ref l) (upd H l (.lst (ps.map V.int))) := fun ps h1 h2 => k l ps _ (same_new hl) upd_same (by omega) h2
    refine ite2 (fun hb => ?_) (fun hb => ?_)
    · refine ⟨_, rfl, _, _, rfl, rfl, ⟨by decide, by decide, by decide⟩, _, _, rfl, rfl, ?_⟩
      refine ⟨_, rfl, c, rfl, by omega, by omega, for_range (n := c.toNat) (fun j σ H2 => ∃ (v : Int) (ps : List Int) (u : Option V), σ = [some (.ref a), some (.int i), some (.int c), some (.int v), some (.ref l), u, none, none, none] ∧
        H2 = upd H l (.lst (ps.map V.int)) ∧ ps.length = j ∧ Pool ps) ⟨_, [], none, rfl, rfl, rfl, Pool.nil⟩ ?_ ?_⟩
      · rintro j σ H2 hj ⟨v, ps, u, rfl, rfl, hl2, hp⟩
        refine ⟨_, rfl, .inl ⟨rfl, _, SqL.of upd_same⟩, _, rfl, .inl ⟨_, rfl, ?_⟩⟩
        refine ⟨_, _, rfl, rfl, by show (0 : Int) < 27720; decide, l, _, _, rfl, rfl, upd_same, small_int (by rw [len_map_int]; omega), ?_⟩
        refine ⟨_, rfl, _, _, rfl, rfl, ⟨by decide, by decide⟩, ?_⟩
        refine ⟨_, ps ++ [v % 27720], _, rfl, ?_, by simp [hl2], hp.app (Int.emod_nonneg _ (by decide)) (Int.emod_lt_of_pos _ (by decide))⟩
        rw [upd_upd, List.map_append]
        rfl
      · rintro σ H2 ⟨v, ps, u, rfl, rfl, hl2, hp⟩
        exact ⟨_, rfl, fin ps hl2 hp⟩
    · refine ⟨_, rfl, c, rfl, by omega, by omega, for_range (n := c.toNat) (fun j σ H2 => ∃ (v : Int) (ps : List Int) (u u1 u2 u3 : Option V), σ = [some (.ref a), some (.int i), some (.int c), some (.int v), some (.ref l), u, u1, u2, u3] ∧
        H2 = upd H l (.lst (ps.map V.int)) ∧ ps.length = j ∧ Pool ps) ⟨_, [], none, none, none, none, rfl, rfl, rfl, Pool.nil⟩ ?_ ?_⟩
      · rintro j σ H2 hj ⟨v, ps, u, u1, u2, u3, rfl, rfl, hl2, hp⟩
        refine ⟨_, rfl, _, _, rfl, rfl, .inr (by decide), _, rfl, _, _, rfl, rfl, _, _, rfl, rfl, .inr (by decide), _, _, rfl, rfl, _, rfl, _, _, rfl, rfl, .inr (by decide), _, _, rfl, rfl, _, _, rfl, rfl, .inl ⟨_, rfl, _, _, rfl, rfl, by show (0 : Int) < 2147483647; decide, ?_⟩⟩
        refine ⟨_, rfl, _, rfl, _, _, rfl, rfl, mulW (mod_sz (by decide) (by decide)) (mod_sz (by decide) (by decide)), _, rfl, _, _, rfl, rfl, .inr (by decide), _, _, rfl, rfl, _, rfl, _, _, rfl, rfl, .inl ⟨_, rfl, _, _, rfl, rfl, by show (0 : Int) < 2147483629; decide, ?_⟩⟩
        refine ⟨_, rfl, _, rfl, _, _, rfl, rfl, mulW (mod_sz (by decide) (by decide)) (mod_sz (by decide) (by decide)), _, rfl, _, _, rfl, rfl, .inl ⟨_, rfl, _, _, rfl, rfl, by show (0 : Int) < 2147483587; decide, ?_⟩⟩
        refine ⟨_, rfl, .inl ⟨rfl, _, SqL.of upd_same⟩, _, rfl, _, _, rfl, rfl, ⟨by decide, by decide⟩, .inl ⟨_, rfl, ?_⟩⟩
        refine ⟨_, _, rfl, rfl, by show (0 : Int) < 27720; decide, l, _, _, rfl, rfl, upd_same, small_int (by rw [len_map_int]; omega), ?_⟩
        exact ⟨_, ps ++ [_], _, _, _, _, rfl, upd_app, by simp [hl2], hp.app (Int.emod_nonneg _ (by decide)) (Int.emod_lt_of_pos _ (by decide))⟩
      · rintro σ H2 ⟨v, ps, u, u1, u2, u3, rfl, rfl, hl2, hp⟩
        exact ⟨_, rfl, fin ps hl2 hp⟩
end
/-! ### drawn names -/
theorem alpha_at : ∀ k : Fin 26, atI (("abcdefghijklmnopqrstuvwxyz" : Str)).cps.toList ((k.val : Nat) : Int) = some (97 + k.val) := by decide +kernel
theorem alpha_ix : ∀ k : Fin 26, Builtin.Str.occurrences ("abcdefghijklmnopqrstuvwxyz" : Str) ⟨#[97 + k.val]⟩ 0 (("abcdefghijklmnopqrstuvwxyz" : Str)).length 1 = [k.val] := by decide +kernel
theorem alpha_len : (("abcdefghijklmnopqrstuvwxyz" : Str)).length ≤ sizeLine := by decide
theorem Letters.app {l m : List Nat} (h : Letters l) (k : Letters m) : Letters (l ++ m) := fun c hc => (List.mem_append.mp hc).elim (h c) (k c)
theorem Letters.one {c : Nat} (h0 : 97 ≤ c) (h1 : c ≤ 122) : Letters [c] := fun d hd => by rw [List.mem_singleton.mp hd]; exact ⟨h0, h1⟩
/-- the word whose last sign has gone t signs on -/
def wat (pre : List Nat) (c t : Nat) : Str := ⟨(pre ++ [97 + (c - 97 + t) % 26]).toArray⟩
theorem wat_len {pre : List Nat} {c t : Nat} : (wat pre c t).length = pre.length + 1 := by
  show ((pre ++ [97 + (c - 97 + t) % 26]).toArray).size = _
  rw [List.size_toArray, List.length_append]; rfl
theorem wat_last {pre : List Nat} {c t : Nat} : atI (wat pre c t).cps.toList (-1) = some (97 + (c - 97 + t) % 26) := by
  show atI (pre ++ [97 + (c - 97 + t) % 26]) (-1) = _
  unfold atI ixN
  rw [if_neg (by decide)]
  have h1 : ((pre ++ [97 + (c - 97 + t) % 26]).length : Int) = (pre.length : Int) + 1 := by rw [List.length_append]; rfl
  have e : (-1 + ((pre ++ [97 + (c - 97 + t) % 26]).length : Int)).toNat = pre.length := by omega
  rw [if_pos (by omega), e]
  simp
theorem wat_next {pre : List Nat} {c t : Nat} : wat pre c (t + 1) = cutS (wat pre c t) none (some (-1)) ++ (⟨#[97 + ((c - 97 + t) % 26 + 1) % 26]⟩ : Str) := by
  apply str_ext
  apply Array.toList_inj.mp
  rw [append_cps, Array.toList_append]
  show pre ++ [97 + (c - 97 + (t + 1)) % 26] = (((pre ++ [97 + (c - 97 + t) % 26]).drop 0).take _) ++ [97 + ((c - 97 + t) % 26 + 1) % 26]
  have h2 : HT.sIx (wat pre c t).length (wat pre c t).length (some (-1)) - HT.sIx (wat pre c t).length 0 none = pre.length := by
    rw [wat_len]
    unfold HT.sIx
    simp
    omega
  rw [h2, List.drop_zero, List.take_left]
  have : (c - 97 + (t + 1)) % 26 = ((c - 97 + t) % 26 + 1) % 26 := by omega
  rw [this]
theorem nodup_le {l : List Str} : ∀ {m : List Str}, l.Nodup → (∀ x ∈ l, x ∈ m) → l.length ≤ m.length := by
  induction l with
  | nil => intro m _ _; exact Nat.zero_le _
  | cons a t ih =>
    intro m nd h
    rw [List.nodup_cons] at nd
    have ha := h a List.mem_cons_self
    have := ih (m := m.erase a) nd.2 fun x hx => (List.mem_erase_of_ne (fun e => nd.1 (by rw [← e]; exact hx))).mpr (h x (List.mem_cons_of_mem _ hx))
    rw [List.length_erase_of_mem ha] at this
    have : 0 < m.length := List.length_pos_of_mem ha
    rw [List.length_cons]
    omega
theorem wat_many {pre : List Nat} {c : Nat} {ns : List Str} (h : ∀ t, t < 26 → wat pre c t ∈ ns) : 26 ≤ ns.length := by
  have nd : ((List.range 26).map (wat pre c)).Nodup := by
    rw [List.nodup_iff_pairwise_ne, List.pairwise_map]
    refine List.Pairwise.imp_of_mem (fun {a b} ha hb hab e => hab ?_) (List.nodup_iff_pairwise_ne.mp List.nodup_range)
    have e1 : pre ++ [97 + (c - 97 + a) % 26] = pre ++ [97 + (c - 97 + b) % 26] := congrArg (fun z : Str => z.cps.toList) e
    have e2 := List.append_cancel_left e1
    have e3 : 97 + (c - 97 + a) % 26 = 97 + (c - 97 + b) % 26 := List.head_eq_of_cons_eq e2
    have := List.mem_range.mp ha
    have := List.mem_range.mp hb
    omega
  have := nodup_le nd fun x hx => by
    obtain ⟨t, ht, rfl⟩ := List.mem_map.mp hx
    exact h t (List.mem_range.mp ht)
  rw [List.length_map, List.length_range] at this
  exact this
theorem sv_inj {a b : List Str} (h : sv a = sv b) : a = b := by
  have : ∀ {a b : List Str}, sv a = sv b → a = b := fun {a b} => by
    intro h
    induction a generalizing b with
    | nil => cases b with | nil => rfl | cons _ _ => cases h
    | cons x t ih =>
      cases b with
      | nil => cases h
      | cons y u =>
        have h1 := List.cons.inj h
        rw [V.str.inj h1.1, ih h1.2]
  exact this h
section
variable {P : Program} {w : World} {K : PySem.W.Frag} {mg : Str → Option Value} {base : Heap} {A : Ad}
def spWord (K : PySem.W.Frag) : Sp := fun vs H Q _ => ∃ (p : Addr) (ns : List Int) (i : Int), vs = [.ref p, .int i] ∧ SqL K H p (ns.map V.int) ∧ Pool ns ∧ 0 ≤ i ∧ i + 2 < ns.length ∧ ∀ z, Good z → Q (.str z) H
theorem ok_word (T : Txt P K mg A) : FnOk P w K mg base CX0 1 A.a_law_word A.d_law_word ["pool", "at"] (spWord K) := by
  refine T.F_law_word.ok sc_law_word (fun vs H Q E h => ?_) (fun cdv A' outer s H vs Q E hr h => ?_)
  · obtain ⟨p, ns, i, rfl, _⟩ := h
    rfl
  · obtain ⟨p, ns, i, rfl, hS, hp, h0, h1, k⟩ := h
    refine ⟨_, (pss_cons (ps_set (i := 2) sc_law_word.nd rfl (Or.inl rfl) (pe_op op_add (pe_op op_mul (pe_op op_add (pe_op op_mul (pe_ix ix_list (pv 0) (pv 1) (fun _ _ => rfl)) pe_int) (pe_ix ix_list (pv 0) (pe_op op_add (pv 1) pe_int) (fun _ _ => rfl))) pe_int) (pe_ix ix_list (pv 0) (pe_op op_add (pv 1) pe_int) (fun _ _ => rfl))))
      (pss_cons (ps_set (i := 3) sc_law_word.nd rfl (Or.inl rfl) (pe_op op_add pe_int (pe_op op_mod (pe_callTy call_int1 (by rfl) T.n_int (by decide +kernel) (pa_cons (pv 2) pa_nil)) pe_int)))
      (pss_cons (ps_set (i := 2) sc_law_word.nd rfl (Or.inl rfl) (pe_op op_fdiv (pv 2) pe_int))
      (pss_cons (ps_set (i := 4) sc_law_word.nd rfl (Or.inl rfl) pe_str)
      (pss_cons (ps_for PassesOwn.never rfl (pi_range1 (by rfl) T.n_range (pa_cons (pv 3) pa_nil)) (pg_name (i := 5) sc_law_word.nd rfl (Or.inl rfl))
        (pss_cons (ps_set (i := 4) sc_law_word.nd rfl (Or.inl rfl) (pe_op op_add_str (pv 4) (pe_ix ix_str pe_str (pe_op op_mod (pe_callTy call_int1 (by rfl) T.n_int (by decide +kernel) (pa_cons (pv 2) pa_nil)) pe_int) (fun _ _ => rfl))))
      (pss_one (ps_set (i := 2) sc_law_word.nd rfl (Or.inl rfl) (pe_op op_fdiv (pv 2) pe_int)))))
      (pss_one (ps_ret (pv 4)))))))), ?_⟩
    obtain ⟨x0, hx0, e0⟩ := atI_ok (xs := ns) (j := i) h0 (by omega)
    obtain ⟨x1, hx1, e1⟩ := atI_ok (xs := ns) (j := i + 1) (by omega) (by omega)
    obtain ⟨x2, hx2, e2⟩ := atI_ok (xs := ns) (j := i + 2) (by omega) (by omega)
    have y0 := hp x0 hx0
    have y1 := hp x1 hx1
    have y2 := hp x2 hx2
    refine ⟨_, rfl, _, rfl, _, _, _, _, rfl, rfl, hS, e0, _, _, rfl, rfl, .inr (by decide), _, rfl, _, rfl, _, _, rfl, rfl, _, _, _, _, rfl, rfl, hS, e1, _, _, rfl, rfl, _, _, rfl, rfl, .inr (by decide), _, rfl, _, rfl, _, _, rfl, rfl, _, _, _, _, rfl, rfl, hS, e2, _, _, rfl, rfl, ?_⟩
    dsimp only
    generalize hc : ((x0 * 27720 + x1) * 27720 + x2) = code
    have hc0 : 0 ≤ code := by omega
    have m0 := Int.emod_nonneg code (show (8 : Int) ≠ 0 by decide)
    have m1 := Int.emod_lt_of_pos code (show (0 : Int) < 8 by decide)
    refine ⟨_, rfl, .inl ⟨_, rfl, _, _, rfl, rfl, by show (0 : Int) < 8; decide, _, _, rfl, rfl, ?_⟩⟩
    refine ⟨_, rfl, _, _, rfl, rfl, ⟨by decide, by decide⟩, ?_⟩
    dsimp only
    generalize hsz : (1 : Int) + code % 8 = size
    refine ⟨_, rfl, size, rfl, by omega, by omega, for_range (n := size.toNat) (fun j σ H2 => H2 = H ∧ ∃ (c : Int) (z : Str) (u : Option V), σ = [some (.ref p), some (.int i), some (.int c), some (.int size), some (.str z), u] ∧ 0 ≤ c ∧ z.length = j ∧ Letters z.cps.toList)
      ⟨rfl, code / 8, ("" : Str), none, rfl, Int.ediv_nonneg hc0 (by decide), by decide, by rw [show (("" : Str)).cps.toList = [] by decide]; exact fun c hc => nomatch hc⟩ ?_ ?_⟩
    · rintro j σ H2 hj ⟨rfl, c, z, u, rfl, hc1, hl, hlet⟩
      have n0 := Int.emod_nonneg c (show (26 : Int) ≠ 0 by decide)
      have n1 := Int.emod_lt_of_pos c (show (0 : Int) < 26 by decide)
      have ea := alpha_at ⟨(c % 26).toNat, by omega⟩
      have ea : atI (("abcdefghijklmnopqrstuvwxyz" : Str)).cps.toList (((c % 26).toNat : Nat) : Int) = some (97 + (c % 26).toNat) := ea
      rw [show (((c % 26).toNat : Nat) : Int) = c % 26 by omega] at ea
      refine ⟨_, rfl, _, rfl, .inl ⟨_, rfl, _, _, rfl, rfl, by show (0 : Int) < 26; decide, _, _, _, rfl, rfl, alpha_len, ea, _, _, rfl, rfl, ?_, ?_⟩⟩
      · show z.length + 1 ≤ sizeLine
        rw [hl]
        have : j + 1 ≤ 8 := by omega
        exact Nat.le_trans this (by decide)
      · refine ⟨_, rfl, _, _, rfl, rfl, ⟨by decide, by decide⟩, rfl, c / 26, _, _, rfl, Int.ediv_nonneg hc1 (by decide), ?_, ?_⟩
        · rw [Str.length_append, hl]; rfl
        · rw [append_cps, Array.toList_append]
          exact hlet.app (Letters.one (by omega) (by omega))
    · rintro σ H2 ⟨rfl, c, z, u, rfl, hc1, hl, hlet⟩
      exact ⟨_, rfl, k z ⟨by omega, by omega, hlet⟩⟩
def spNew (K : PySem.W.Frag) : Sp := fun vs H Q _ => ∃ (l : Addr) (ns : List Str) (z : Str), vs = [.ref l, .str z] ∧ SqL K H l (sv ns) ∧ ns.length ≤ 25 ∧ Good z ∧ ∀ z', Good z' → z' ∉ ns → Q (.str z') H
theorem ok_new (T : Txt P K mg A) : FnOk P w K mg base CX0 1 A.a_law_new A.d_law_new ["names", "word"] (spNew K) := by
  refine T.F_law_new.ok sc_law_new (fun vs H Q E h => ?_) (fun cdv A' outer s H vs Q E hr h => ?_)
  · obtain ⟨l, ns, z, rfl, _⟩ := h
    rfl
  · obtain ⟨l, ns, z, rfl, hS, hl, g, k⟩ := h
    refine ⟨_, (pss_cons (ps_set (i := 2) sc_law_new.nd rfl (Or.inl rfl) pe_str)
      (pss_cons (ps_for PassesOwn.never rfl (pi_range1 (by rfl) T.n_range (pa_cons pe_int pa_nil)) (pg_name (i := 3) sc_law_new.nd rfl (Or.inl rfl))
        (pss_cons (ps_if (pt_cmpR op_notIn_seq (pv 1) (pv 0) (by with_unfolding_all rfl)) (pss_one ps_break) pss_nil)
      (pss_one (ps_set (i := 1) sc_law_new.nd rfl (Or.inl rfl) (pe_op op_add_str (pe_slice sl_str (pv 1) po_none (po_some (pe_un un_neg pe_int))) (pe_ix ix_str (pv 2) (pe_op op_mod (pe_callTy call_int1 (by rfl) T.n_int (by decide +kernel) (pa_cons (pe_op op_add (pe_m1 PySem.F.slot_str_index PySem.F.type_str_index mt_sindex (pv 2) (pe_ix ix_str (pv 1) (pe_un un_neg pe_int) (fun _ _ => rfl))) pe_int) pa_nil)) pe_int) (fun _ _ => rfl)))))))
      (pss_one (ps_ret (pv 1))))), ?_⟩
    obtain ⟨pre, c, hz⟩ : ∃ pre c, z.cps.toList = pre ++ [c] := by
      have h1 : 0 < z.cps.toList.length := by have := g.pos; have e : z.cps.toList.length = z.length := Array.length_toList; omega
      exact ⟨_, _, (List.dropLast_concat_getLast (List.length_pos_iff.mp h1)).symm⟩
    have hc : 97 ≤ c ∧ c ≤ 122 := g.let_ c (by rw [hz]; simp)
    have hpre : Letters pre := fun x hx => g.let_ x (by rw [hz]; exact List.mem_append_left _ hx)
    have hpl : pre.length + 1 = z.length := by
      have e : z.cps.toList.length = z.length := Array.length_toList
      rw [hz] at e; simpa using e
    have hg : ∀ t, Good (wat pre c t) := fun t => by
      have := g.pos
      have := g.le
      refine ⟨?_, ?_, ?_⟩
      · rw [wat_len]; omega
      · rw [wat_len]; omega
      · show Letters (pre ++ [97 + (c - 97 + t) % 26])
        exact hpre.app (Letters.one (by omega) (by omega))
    have hz0 : z = wat pre c 0 := by
      apply str_ext
      apply Array.toList_inj.mp
      rw [hz]
      show pre ++ [c] = pre ++ [97 + (c - 97 + 0) % 26]
      have : 97 + (c - 97 + 0) % 26 = c := by omega
      rw [this]
    rw [hz0]
    have hsl : ∀ t, (wat pre c t).length ≤ sizeLine := fun t => Nat.le_trans (hg t).le (by decide)
    refine ⟨26, rfl, by decide, by decide, for_range (n := 26) (fun t σ H2 => H2 = H ∧ ∃ u : Option V, σ = [some (.ref l), some (.str (wat pre c t)), some (.str "abcdefghijklmnopqrstuvwxyz"), u] ∧ ∀ s, s < t → wat pre c s ∈ ns)
      ⟨rfl, none, rfl, fun s hs => absurd hs (Nat.not_lt_zero _)⟩ ?_ ?_⟩
    · rintro t σ H2 ht ⟨rfl, u, rfl, hall⟩
      refine ⟨_, rfl, _, rfl, l, _, rfl, .inl hS, rfl, flat_sv _, _, rfl, ?_⟩
      rw [if_pos (rfl : true = true), inV_str]
      by_cases hin : wat pre c t ∈ ns
      · refine ifF (by rw [decide_eq_true hin]; rfl) ?_
        have m26 : (c - 97 + t) % 26 < 26 := Nat.mod_lt _ (by decide)
        have ei : Builtin.Str.occurrences ("abcdefghijklmnopqrstuvwxyz" : Str) ⟨#[97 + (c - 97 + t) % 26]⟩ 0 (("abcdefghijklmnopqrstuvwxyz" : Str)).length 1 = [(c - 97 + t) % 26] := alpha_ix ⟨_, m26⟩
        have k26 : ((c - 97 + t) % 26 + 1) % 26 < 26 := Nat.mod_lt _ (by decide)
        have ea : atI (("abcdefghijklmnopqrstuvwxyz" : Str)).cps.toList (((((c - 97 + t) % 26 + 1) % 26 : Nat)) : Int) = some (97 + ((c - 97 + t) % 26 + 1) % 26) := alpha_at ⟨_, k26⟩
        rw [show (((((c - 97 + t) % 26 + 1) % 26 : Nat)) : Int) = ((((c - 97 + t) % 26 : Nat)) + 1 : Int) % 26 by omega] at ea
        refine ⟨_, rfl, _, rfl, _, rfl, _, rfl, hsl t, _, rfl, _, rfl, ⟨_, rfl⟩, _, rfl, _, rfl, _, _, _, rfl, rfl, hsl t, wat_last, _, _, _, _, rfl, rfl, ei, _, _, rfl, rfl, .inl ⟨_, rfl, _, _, rfl, rfl, by show (0 : Int) < 26; decide, _, _, _, rfl, rfl, alpha_len, ea, _, _, rfl, rfl, ?_, rfl, some (.int (0 + (t : Int))), ?_, ?_⟩⟩
        · refine Nat.le_trans (Nat.add_le_add_right (cutS_length _ _ _) 1) ?_
          have := (hg t).le
          exact Nat.le_trans (Nat.succ_le_succ this) (by decide)
        · rw [wat_next]; rfl
        · intro s hs
          rcases Nat.lt_succ_iff_lt_or_eq.mp hs with q | q
          · exact hall s q
          · rw [q]; exact hin
      · refine ifT (by rw [decide_eq_false hin]; rfl) ?_
        exact ⟨_, rfl, k _ (hg t) hin⟩
    · rintro σ H2 ⟨rfl, u, rfl, hall⟩
      exfalso
      have := wat_many (fun t ht => hall t ht)
      omega
end
end My
set_option maxRecDepth 100000
set_option maxHeartbeats 4000000
set_option exponentiation.threshold 10000
namespace My
open PySem L2
/-! ### the weight of lines -/
def wt (ls : List Str) : Nat := (ls.map (·.length)).sum + ls.length
theorem wt_app (a b : List Str) : wt (a ++ b) = wt a + wt b := by
  unfold wt; rw [List.map_append, List.sum_append, List.length_append]; omega
theorem wt_one (z : Str) : wt [z] = z.length + 1 := by
  show (z.length + 0) + 1 = _; omega
theorem wt_td (ls : List Str) (k : Nat) : wt (ls.take k) + wt (ls.drop k) = wt ls := by
  rw [← wt_app, List.take_append_drop]
theorem wt_take (ls : List Str) (k : Nat) : wt (ls.take k) ≤ wt ls := by have := wt_td ls k; omega
theorem wt_drop (ls : List Str) (k : Nat) : wt (ls.drop k) ≤ wt ls := by have := wt_td ls k; omega
theorem wt_drop1 (ls : List Str) (k : Nat) : wt (ls.drop (k + 1)) ≤ wt (ls.drop k) := by
  rw [show ls.drop (k + 1) = (ls.drop k).drop 1 by rw [List.drop_drop]]
  exact wt_drop _ _
theorem wt_mem {ls : List Str} {z : Str} (h : z ∈ ls) : z.length + 1 ≤ wt ls := by
  obtain ⟨a, b, rfl⟩ := List.append_of_mem h
  rw [wt_app, show z :: b = [z] ++ b from rfl, wt_app, wt_one]; omega
theorem wt_set (ls : List Str) (k : Nat) (z : Str) : wt (ls.set k z) ≤ wt ls + (z.length + 1) := by
  rw [List.set_eq_take_append_cons_drop]
  split
  · rw [wt_app, show z :: ls.drop (k + 1) = [z] ++ ls.drop (k + 1) from rfl, wt_app, wt_one]
    have := wt_td ls k
    have := wt_drop1 ls k
    omega
  · omega
theorem wt_rep (n : Nat) (z : Str) : wt (List.replicate n z) = n * (z.length + 1) := by
  induction n with
  | zero => simp [wt]
  | succ n ih =>
    rw [List.replicate_succ, show z :: List.replicate n z = [z] ++ List.replicate n z from rfl, wt_app, ih, wt_one, Nat.succ_mul]; omega
theorem wt_split (T : Str) {y : Str} (hy : y.length = 1) : wt (Txt.split T y) ≤ T.length + 1 := split_len T hy
theorem wt_len (ls : List Str) : ls.length ≤ wt ls := by unfold wt; omega
theorem wt_join {y : Str} (hy : y.length = 1) (ls : List Str) : ((ls.map (·.length)).sum + ls.length * y.length) = wt ls ∧ (Txt.join y ls).length ≤ wt ls := by
  have := join_len y ls
  rw [hy, Nat.mul_one] at this ⊢
  exact ⟨rfl, this⟩
theorem at_sv {ss : List Str} {j : Int} (h0 : 0 ≤ j) (h1 : j < ss.length) : ∃ z, z ∈ ss ∧ atI (sv ss) j = some (V.str z) := by
  obtain ⟨n, rfl⟩ := Int.eq_ofNat_of_zero_le h0
  have hn : n < ss.length := by omega
  exact ⟨ss[n], List.getElem_mem hn, atI_nat (by rw [List.getElem?_map, List.getElem?_eq_getElem hn]; rfl)⟩
theorem at_last {ss : List Str} (h : 0 < ss.length) : ∃ z, z ∈ ss ∧ atI (sv ss) (-1) = some (V.str z) := by
  refine ⟨ss[ss.length - 1], List.getElem_mem _, ?_⟩
  unfold atI ixN
  rw [if_neg (by decide), len_sv, if_pos (by omega)]
  have e : (-1 + (ss.length : Int)).toNat = ss.length - 1 := by omega
  rw [e]
  show (sv ss)[ss.length - 1]? = _
  rw [List.getElem?_map, List.getElem?_eq_getElem (by omega)]; rfl
theorem ixN_of {n j : Nat} (hj : j < n) : ixN n (j : Int) = some j := by
  unfold ixN; rw [if_pos (by omega), if_pos (by omega)]; simp
theorem cut_tk (ss : List Str) (n : Nat) : cutV (sv ss) none (some (n : Int)) = sv (ss.take n) := by
  unfold cutV
  rw [HT.sIx_none, HT.sIx_nat, List.drop_zero, Nat.sub_zero, sv_take]
  rw [len_sv, show ss.take (min n ss.length) = ss.take n by
    rcases Nat.le_total n ss.length with h | h
    · rw [Nat.min_eq_left h]
    · rw [Nat.min_eq_right h, List.take_of_length_le (Nat.le_refl _), List.take_of_length_le h]]
theorem cut_dp (ss : List Str) (n : Nat) : cutV (sv ss) (some (n : Int)) none = sv (ss.drop n) := by
  unfold cutV
  rw [HT.sIx_none, HT.sIx_nat, len_sv, sv_drop]
  rw [List.take_of_length_le (by rw [len_sv, List.length_drop]; exact Nat.le_refl _)]
  rw [show ss.drop (min n ss.length) = ss.drop n by
    rcases Nat.le_total n ss.length with h | h
    · rw [Nat.min_eq_left h]
    · rw [Nat.min_eq_right h, List.drop_of_length_le (Nat.le_refl _), List.drop_of_length_le h]]
theorem cutS_tk (z : Str) (n : Nat) : (cutS z none (some (n : Int))).length ≤ n := by
  show ((((z.cps.toList.drop _).take _)).toArray).size ≤ _
  rw [List.size_toArray, List.length_take, HT.sIx_none, HT.sIx_nat]
  omega
theorem cutS_dp (z : Str) (n : Nat) : (cutS z (some (n : Int)) none).length ≤ z.length - n := by
  show ((((z.cps.toList.drop _).take _)).toArray).size ≤ _
  rw [List.size_toArray, List.length_take, HT.sIx_none, HT.sIx_nat]
  omega
theorem sign_at : ∀ k : Fin 94, (atI ((" !\"#$&'()*+,-./0123456789:;<=>?@ABCDEFGHIJKLMNOPQRSTUVWXYZ[\\]^_`abcdefghijklmnopqrstuvwxyz{|}~" : Str)).cps.toList ((k.val : Nat) : Int)).isSome = true := by decide +kernel
theorem sign_len : ((" !\"#$&'()*+,-./0123456789:;<=>?@ABCDEFGHIJKLMNOPQRSTUVWXYZ[\\]^_`abcdefghijklmnopqrstuvwxyz{|}~" : Str)).length = 94 := by decide +kernel
section
variable {P : Program} {w : World} {K : PySem.W.Frag} {mg : Str → Option Value} {base : Heap} {A : Ad}
def spSign : Sp := fun vs H Q _ => ∃ d : Int, vs = [.int d] ∧ 0 ≤ d ∧ ∀ z : Str, z.length = 1 → Q (.str z) H
theorem ok_sign (T : Txt P K mg A) : FnOk P w K mg base CX0 1 A.a_law_sign A.d_law_sign ["draw"] spSign := by
  refine T.F_law_sign.ok sc_law_sign (fun vs H Q E h => ?_) (fun cdv A' outer s H vs Q E hr h => ?_)
  · obtain ⟨d, rfl, _⟩ := h
    rfl
  · obtain ⟨d, rfl, d0, k⟩ := h
    refine ⟨_, (pss_cons (ps_set (i := 1) sc_law_sign.nd rfl (Or.inl rfl) pe_str)
      (pss_cons (ps_if (pt_cmpR op_eq (pe_op op_mod (pe_callTy call_int1 (by rfl) T.n_int (by decide +kernel) (pa_cons (pv 0) pa_nil)) pe_int) pe_int (nomark _)) (pss_one (ps_ret pe_str)) pss_nil)
      (pss_cons (ps_if (pt_cmpR op_eq (pe_op op_mod (pe_callTy call_int1 (by rfl) T.n_int (by decide +kernel) (pa_cons (pv 0) pa_nil)) pe_int) pe_int (nomark _)) (pss_one (ps_ret pe_str)) pss_nil)
      (pss_one (ps_ret (pe_ix ix_str (pv 1) (pe_op op_mod (pe_callTy call_int1 (by rfl) T.n_int (by decide +kernel) (pa_cons (pe_op op_fdiv (pv 0) pe_int) pa_nil)) (pe_callB call_len_str (by rfl) T.n_len (by decide +kernel) (pa_cons (pv 1) pa_nil))) (fun _ _ => rfl))))))), ?_⟩
    refine ⟨_, rfl, .inl ⟨_, rfl, _, _, rfl, rfl, by show (0 : Int) < 4; decide, rfl, _, rfl, ite2 (fun hb => k _ (by decide)) (fun hb => ?_)⟩⟩
    refine ⟨_, rfl, .inl ⟨_, rfl, _, _, rfl, rfl, by show (0 : Int) < 4; decide, rfl, _, rfl, ite2 (fun hb => k _ (by decide)) (fun hb => ?_)⟩⟩
    have m0 := Int.emod_nonneg (d / 4) (show (94 : Int) ≠ 0 by decide)
    have m1 := Int.emod_lt_of_pos (d / 4) (show (0 : Int) < 94 by decide)
    obtain ⟨c, hc⟩ := Option.isSome_iff_exists.mp (sign_at ⟨(d / 4 % 94).toNat, by omega⟩)
    have hc : atI _ (((d / 4 % 94).toNat : Nat) : Int) = some c := hc
    rw [show (((d / 4 % 94).toNat : Nat) : Int) = d / 4 % 94 by omega] at hc
    refine ⟨_, rfl, _, rfl, _, _, rfl, rfl, ⟨by decide, by decide⟩, .inl ⟨_, rfl, _, rfl, _, rfl, by rw [sign_len]; decide, _, _, rfl, rfl, by rw [sign_len]; show (0 : Int) < 94; decide, _, _, _, rfl, rfl, by rw [sign_len]; decide, by rw [sign_len]; exact hc, k _ rfl⟩⟩
def spLinesEd (K : PySem.W.Frag) : Sp := fun vs H Q _ => ∃ (l p : Addr) (ls : List Str) (ns : List Int) (way i : Int), vs = [.ref l, .int way, .ref p, .int i] ∧ H l = some (.lst (sv ls)) ∧ SqL K H p (ns.map V.int) ∧ Pool ns ∧ 0 ≤ i ∧ i + 3 < ns.length ∧ 0 < ls.length ∧ 51 * wt ls + 150 ≤ 15500000 ∧
  ∀ r ls' H', Same H H' → H' r = some (.lst (sv ls')) → wt ls' ≤ 51 * wt ls + 150 → Q (.ref r) H'
theorem ok_linesEd (T : Txt P K mg A) : FnOk P w K mg base CX0 2 A.a_law_lines_edited A.d_law_lines_edited ["lines", "way", "pool", "at"] (spLinesEd K) := by
  have G_law_new := ok_new (P := P) (w := w) (base := base) T
  refine T.F_law_lines_edited.ok sc_law_lines_edited (fun vs H Q E h => ?_) (fun cdv A' outer s H vs Q E hr h => ?_)
  · obtain ⟨l, p, ls, ns, way, i, rfl, _⟩ := h
    rfl
  · obtain ⟨l, p, ls, ns, way, i, rfl, hL, hS, hp, i0, i3, hpos, hw, k⟩ := h
    refine ⟨_, (pss_cons (ps_set (i := 4) sc_law_lines_edited.nd rfl (Or.inl rfl) (pe_op op_mod (pe_callTy call_int1 (by rfl) T.n_int (by decide +kernel) (pa_cons (pe_ix ix_list (pv 2) (pe_op op_add (pv 3) pe_int) (fun _ _ => rfl)) pa_nil)) (pe_callB call_len_seq (by rfl) T.n_len (by decide +kernel) (pa_cons (pv 0) pa_nil))))
      (pss_cons (ps_set (i := 5) sc_law_lines_edited.nd rfl (Or.inl rfl) (pe_op op_mod (pe_callTy call_int1 (by rfl) T.n_int (by decide +kernel) (pa_cons (pe_ix ix_list (pv 2) (pe_op op_add (pv 3) pe_int) (fun _ _ => rfl)) pa_nil)) (pe_callB call_len_seq (by rfl) T.n_len (by decide +kernel) (pa_cons (pv 0) pa_nil))))
      (pss_cons (ps_set (i := 6) sc_law_lines_edited.nd rfl (Or.inl rfl) (pe_m1 PySem.F.slot_str_split PySem.F.type_str_split mt_split (pe_ix ix_list (pv 0) (pv 4) (fun _ _ => rfl)) pe_str))
      (pss_cons (ps_if (pt_cmpR op_eq (pv 1) pe_int (nomark _)) (pss_cons (ps_set (i := 7) sc_law_lines_edited.nd rfl (Or.inl rfl) (pe_op op_mod (pe_callTy call_int1 (by rfl) T.n_int (by decide +kernel) (pa_cons (pe_ix ix_list (pv 2) (pe_op op_add (pv 3) pe_int) (fun _ _ => rfl)) pa_nil)) (pe_op op_add (pe_callB call_len_seq (by rfl) T.n_len (by decide +kernel) (pa_cons (pv 6) pa_nil)) pe_int)))
      (pss_cons (ps_expr (pe_bm PySem.F.plainAttrs_list PySem.F.slot_list_insert PySem.F.type_list_insert mt_insert (pv 6) (pa_cons (pv 7) (pa_cons (pe_ix ix_list (pv 6) (pe_op op_mod (pe_callTy call_int1 (by rfl) T.n_int (by decide +kernel) (pa_cons (pe_ix ix_list (pv 2) (pe_op op_add (pv 3) pe_int) (fun _ _ => rfl)) pa_nil)) (pe_callB call_len_seq (by rfl) T.n_len (by decide +kernel) (pa_cons (pv 6) pa_nil))) (fun _ _ => rfl)) pa_nil))))
      (pss_one (ps_ret (pe_op op_cat (pe_op op_cat (pe_slice sl_list (pv 0) po_none (po_some (pv 4))) (pe_lst (pa_cons (pe_join pe_str (pv 6)) pa_nil))) (pe_slice sl_list (pv 0) (po_some (pe_op op_add (pv 4) pe_int)) po_none)))))) pss_nil)
      (pss_cons (ps_if (pt_cmpR op_eq (pv 1) pe_int (nomark _)) (pss_cons (ps_set (i := 7) sc_law_lines_edited.nd rfl (Or.inl rfl) (pe_op op_mod (pe_callTy call_int1 (by rfl) T.n_int (by decide +kernel) (pa_cons (pe_ix ix_list (pv 2) (pe_op op_add (pv 3) pe_int) (fun _ _ => rfl)) pa_nil)) (pe_op op_add (pe_callB call_len_seq (by rfl) T.n_len (by decide +kernel) (pa_cons (pv 0) pa_nil)) pe_int)))
      (pss_one (ps_ret (pe_op op_cat (pe_op op_cat (pe_slice sl_list (pv 0) po_none (po_some (pv 7))) (pe_lst (pa_cons (pe_ix ix_list (pv 0) (pv 4) (fun _ _ => rfl)) pa_nil))) (pe_slice sl_list (pv 0) (po_some (pv 7)) po_none))))) pss_nil)
      (pss_cons (ps_if (pt_cmpR op_eq (pv 1) pe_int (nomark _)) (pss_one (ps_ret (pe_op op_cat (pe_slice sl_list (pv 0) po_none (po_some (pv 4))) (pe_slice sl_list (pv 0) (po_some (pe_op op_add (pv 4) pe_int)) po_none)))) pss_nil)
      (pss_cons (ps_if (pt_cmpR op_eq (pv 1) pe_int (nomark _)) (pss_cons (ps_set (i := 8) sc_law_lines_edited.nd rfl (Or.inl rfl) (pe_callTy call_list_of (by rfl) T.n_list (by decide +kernel) (pa_cons (pv 0) pa_nil)))
      (pss_cons (ps_asg (pe_ix ix_list (pv 0) (pv 5) (fun _ _ => rfl)) (pg_sub (pv 8) (pv 4) set_list))
      (pss_cons (ps_asg (pe_ix ix_list (pv 0) (pv 4) (fun _ _ => rfl)) (pg_sub (pv 8) (pv 5) set_list))
      (pss_one (ps_ret (pv 8)))))) pss_nil)
      (pss_cons (ps_if (pt_cmpR op_eq (pv 1) pe_int (nomark _)) (pss_one (ps_ret (pe_op op_cat (pv 0) (pe_lc (own := [("turn", 9)]) (g := gName 9) (tt := tYes) rfl sc_law_lines_edited.nd (pi_range1 (by rfl) T.n_range (pa_cons (pe_op op_sub (pe_op op_add pe_int (pe_op op_mod (pe_callTy call_int1 (by rfl) T.n_int (by decide +kernel) (pa_cons (pe_ix ix_list (pv 2) (pe_op op_add (pv 3) pe_int) (fun _ _ => rfl)) pa_nil)) pe_int)) (pe_callB call_len_seq (by rfl) T.n_len (by decide +kernel) (pa_cons (pv 0) pa_nil))) pa_nil)) (blkOk_by (N := ["lines", "way", "pool", "at", "k", "j", "words", "cut", "mixed", "turn"]) (sc := defScope s_law_lines_edited) (by decide +kernel)) (fun _ _ _ _ _ => (pg_name (i := 9) sc_law_lines_edited.nd rfl (Or.inl rfl))) (fun _ _ _ _ _ => pts_nil) (fun _ _ _ _ _ => (pe_ix (show IxR _ (rIxL K) from ix_list) (pv 0) (pe_un un_neg pe_int) (fun _ _ => rfl))))))) pss_nil)
      (pss_cons (ps_set (i := 6) sc_law_lines_edited.nd rfl (Or.inl rfl) (pe_m1 PySem.F.slot_str_split PySem.F.type_str_split mt_split (pe_ix ix_list (pv 0) pe_int (fun _ _ => rfl)) pe_str))
      (pss_cons (ps_for PassesOwn.never rfl (pi_range1 (by rfl) T.n_range (pa_cons pe_int pa_nil)) (pg_name (i := 9) sc_law_lines_edited.nd rfl (Or.inl rfl))
        (pss_one (ps_if (pt_cmpR op_lt (pe_callB call_len_seq (by rfl) T.n_len (by decide +kernel) (pa_cons (pv 6) pa_nil)) (pe_op op_add pe_int (pe_op op_mod (pe_callTy call_int1 (by rfl) T.n_int (by decide +kernel) (pa_cons (pe_ix ix_list (pv 2) (pe_op op_add (pv 3) pe_int) (fun _ _ => rfl)) pa_nil)) pe_int)) (nomark _)) (pss_one (ps_expr (pe_bm PySem.F.plainAttrs_list PySem.F.slot_list_append PySem.F.type_list_append mt_append (pv 6) (pa_cons (pe_call G_law_new (hr.mono (by decide)) rfl T.mg_law_new T.F_law_new.kp T.b_law_new .nil pass0 (pa_cons (pv 6) (pa_cons pe_str pa_nil))) pa_nil)))) pss_nil)))
      (pss_one (ps_ret (pe_op op_cat (pe_lst (pa_cons (pe_join pe_str (pv 6)) pa_nil)) (pe_slice sl_list (pv 0) (po_some pe_int) po_none)))))))))))))), ?_⟩
    obtain ⟨x1, m1, e1⟩ := atI_ok (xs := ns) (j := i + 1) (by omega) (by omega)
    obtain ⟨x2, m2, e2⟩ := atI_ok (xs := ns) (j := i + 2) (by omega) (by omega)
    obtain ⟨x3, m3, e3⟩ := atI_ok (xs := ns) (j := i + 3) (by omega) (by omega)
    have hll : (sv ls).length = ls.length := len_sv ls
    have lp : (0 : Int) < ((sv ls).length : Int) := by omega
    have hwl := wt_len ls
    refine ⟨_, rfl, _, rfl, _, _, rfl, rfl, _, _, _, _, rfl, rfl, hS, e1, .inl ⟨_, rfl, _, rfl, l, _, rfl, .inl (SqL.of hL), _, _, rfl, rfl, lp, ?_⟩⟩
    refine ⟨_, rfl, _, rfl, _, _, rfl, rfl, _, _, _, _, rfl, rfl, hS, e2, .inl ⟨_, rfl, _, rfl, l, _, rfl, .inl (SqL.of hL), _, _, rfl, rfl, lp, ?_⟩⟩
    have k0 := Int.emod_nonneg x1 (show (((sv ls).length : Nat) : Int) ≠ 0 by omega)
    have k1 := Int.emod_lt_of_pos x1 lp
    have j0 := Int.emod_nonneg x2 (show (((sv ls).length : Nat) : Int) ≠ 0 by omega)
    have j1 := Int.emod_lt_of_pos x2 lp
    dsimp only
    generalize x1 % (((sv ls).length : Nat) : Int) = kk at k0 k1 ⊢
    generalize x2 % (((sv ls).length : Nat) : Int) = jj at j0 j1 ⊢
    obtain ⟨n, rfl⟩ := Int.eq_ofNat_of_zero_le k0
    obtain ⟨m, rfl⟩ := Int.eq_ofNat_of_zero_le j0
    obtain ⟨zn, mn, en⟩ := at_sv (ss := ls) (j := (n : Int)) k0 (by omega)
    obtain ⟨zm, mm, em⟩ := at_sv (ss := ls) (j := (m : Int)) j0 (by omega)
    have wn := wt_mem mn
    have wm := wt_mem mm
    have hsz : 15500000 + 2 ≤ sizeLine := by decide
    refine ⟨_, rfl, _, rfl, _, _, _, _, rfl, rfl, SqL.of hL, en, ⟨_, rfl⟩, zn, _, rfl, rfl, sp0, by omega, fun wd hwd => ?_⟩
    have s1 := same_new (o := .lst ((Txt.split zn " ").map V.str)) hwd
    have hwd1 := upd_same (H := H) (a := wd) (o := .lst (sv (Txt.split zn " ")))
    have hwp := split_ne zn " "
    have hws := wt_split zn ls_sp
    have hwl2 := wt_len (Txt.split zn " ")
    generalize Txt.split zn " " = ws at s1 hwd1 hwp hws hwl2 ⊢
    generalize hH1 : upd H wd _ = H1 at s1 hwd1 ⊢
    have hL1 := s1 _ _ hL
    have hS1 := s1.seq hS
    clear hH1
    have fin : ∀ (r : Addr) (xs ys zs : List Str) (H' : Hp), Same H H' → H' r = some (.lst (sv xs ++ sv ys ++ sv zs)) → wt xs + wt ys + wt zs ≤ 51 * wt ls + 150 → Q (.ref r) H' := fun r xs ys zs H' s' hr' hw' => by
      refine k r (xs ++ ys ++ zs) H' s' ?_ (by rw [wt_app, wt_app]; exact hw')
      rw [hr', ← List.map_append, ← List.map_append]
    have fin2 : ∀ (r : Addr) (xs ys : List Str) (H' : Hp), Same H H' → H' r = some (.lst (sv xs ++ sv ys)) → wt xs + wt ys ≤ 51 * wt ls + 150 → Q (.ref r) H' := fun r xs ys H' s' hr' hw' => by
      refine k r (xs ++ ys) H' s' ?_ (by rw [wt_app]; exact hw')
      rw [hr', ← List.map_append]
    have big : 15600000 ≤ sizeLine := by decide
    have hn1 : ((n : Int) + 1) = ((n + 1 : Nat) : Int) := by omega
    refine ⟨_, rfl, rfl, _, rfl, ite2 (fun hb => ?_) (fun hb => ?_)⟩
    · have lpw : (0 : Int) < ((sv ws).length : Int) := by rw [len_sv]; omega
      refine ⟨_, rfl, _, rfl, _, _, rfl, rfl, _, _, _, _, rfl, rfl, hS1, e3, .inl ⟨_, rfl, _, rfl, wd, _, rfl, .inl (SqL.of hwd1), _, _, rfl, rfl, _, _, rfl, rfl, by omega, ?_⟩⟩
      have c0 := Int.emod_nonneg x3 (show ((sv ws).length : Int) + 1 ≠ 0 by omega)
      have c1 := Int.emod_lt_of_pos x3 (show 0 < ((sv ws).length : Int) + 1 by omega)
      dsimp only
      generalize x3 % (((sv ws).length : Nat) + 1 : Int) = cc at c0 c1 ⊢
      obtain ⟨c, rfl⟩ := Int.eq_ofNat_of_zero_le c0
      have q0 := Int.emod_nonneg x2 (show (((sv ws).length : Nat) : Int) ≠ 0 by omega)
      have q1 := Int.emod_lt_of_pos x2 lpw
      obtain ⟨zw, mw, ew⟩ := at_sv (ss := ws) q0 (by rw [← len_sv ws]; exact q1)
      have ww := wt_mem mw
      refine ⟨_, rfl, .inl ⟨rfl, _, SqL.of hwd1⟩, _, rfl, _, rfl, _, rfl, _, rfl, _, _, rfl, rfl, _, _, _, _, rfl, rfl, hS1, e2, .inl ⟨_, rfl, _, rfl, wd, _, rfl, .inl (SqL.of hwd1), _, _, rfl, rfl, lpw, wd, _, _, _, rfl, rfl, SqL.of hwd1, ew, wd, _, _, _, rfl, rfl, hwd1, by rw [len_sv]; omega, c0, by have : (ws.length : Int) < 2 ^ 60 := (by omega); rw [len_sv] at c1; omega, ?_⟩⟩
      rw [Int.toNat_natCast, sv_take, sv_drop]
      generalize hX : upd H1 wd _ = H2
      have s2 : Same H H2 := fun b o e => by rw [← hX, upd_ne (ne_of_none e hwd)]; exact s1 _ _ e
      have hw2 : H2 wd = some (.lst (sv (ws.take c ++ [zw] ++ ws.drop c))) := by rw [← hX, upd_same]; simp [sv]
      have hL2 := s2 _ _ hL
      clear hX
      refine ⟨_, rfl, _, rfl, _, rfl, l, _, rfl, SqL.of hL2, fun a ha => ?_⟩
      rw [cut_tk]
      have sa := same_new (o := .lst (sv (ls.take n))) ha
      have wj := wt_join ls_sp (ws.take c ++ [zw] ++ ws.drop c)
      have ww2 : wt (ws.take c ++ [zw] ++ ws.drop c) = wt ws + (zw.length + 1) := by
        rw [wt_app, wt_app, wt_one]; have := wt_td ws c; omega
      rw [ww2] at wj
      refine ⟨⟨_, rfl⟩, _, rfl, _, wd, _, rfl, rfl, .inl (SqL.of (sa _ _ hw2)), by rw [wj.1]; omega, by show 1 ≤ sizeLine; decide, fun m hm => ?_⟩
      have nam : a ≠ m := ne_of_none upd_same hm
      have htl : (ls.take n).length ≤ ls.length := by rw [List.length_take]; omega
      refine ⟨a, m, _, _, rfl, rfl, by rw [upd_ne nam]; exact upd_same, upd_same, by rw [len_sv]; show _ + 1 ≤ _; omega, fun e he => ?_⟩
      have s5 := s2.trans (sa.trans ((same_new hm).trans (same_new (o := .lst (sv (ls.take n) ++ [V.str (Txt.join " " (ws.take c ++ [zw] ++ ws.drop c))])) he)))
      refine ⟨_, rfl, _, rfl, _, _, rfl, rfl, _, rfl, l, _, rfl, SqL.of (s5 _ _ hL), fun b hb => ?_⟩
      rw [hn1, cut_dp]
      have neb : e ≠ b := ne_of_none upd_same hb
      have hdl : (ls.drop (n + 1)).length ≤ ls.length := by rw [List.length_drop]; omega
      refine ⟨e, b, _, _, rfl, rfl, by rw [upd_ne neb]; exact upd_same, upd_same, by rw [List.length_append, len_sv, len_sv]; show _ + 1 + _ ≤ _; omega, fun d hd => ?_⟩
      refine fin d (ls.take n) [_] (ls.drop (n + 1)) _ (s5.trans ((same_new hb).trans (same_new hd))) (by rw [upd_same]; rfl) ?_
      rw [wt_one]
      have := wt_td ls n
      have := wt_drop1 ls n
      omega
    refine ⟨_, rfl, rfl, _, rfl, ite2 (fun hb => ?_) (fun hb => ?_)⟩
    · refine ⟨_, rfl, _, rfl, _, _, rfl, rfl, _, _, _, _, rfl, rfl, hS1, e2, .inl ⟨_, rfl, _, rfl, l, _, rfl, .inl (SqL.of hL1), _, _, rfl, rfl, _, _, rfl, rfl, by omega, ?_⟩⟩
      have c0 := Int.emod_nonneg x2 (show ((sv ls).length : Int) + 1 ≠ 0 by omega)
      have c1 := Int.emod_lt_of_pos x2 (show 0 < ((sv ls).length : Int) + 1 by omega)
      dsimp only
      generalize x2 % (((sv ls).length : Nat) + 1 : Int) = cc at c0 c1 ⊢
      obtain ⟨c, rfl⟩ := Int.eq_ofNat_of_zero_le c0
      refine ⟨_, rfl, _, rfl, _, rfl, l, _, rfl, SqL.of hL1, fun a ha => ?_⟩
      rw [cut_tk]
      have sa := same_new (o := .lst (sv (ls.take c))) ha
      refine ⟨_, rfl, _, rfl, _, _, _, _, rfl, rfl, SqL.of (sa _ _ hL1), en, by show 1 ≤ sizeLine; decide, fun m hm => ?_⟩
      have nam : a ≠ m := ne_of_none upd_same hm
      have htl : (ls.take c).length ≤ ls.length := by rw [List.length_take]; omega
      refine ⟨a, m, _, _, rfl, rfl, by rw [upd_ne nam]; exact upd_same, upd_same, by rw [len_sv]; show _ + 1 ≤ _; omega, fun e he => ?_⟩
      have s5 := s1.trans (sa.trans ((same_new hm).trans (same_new (o := .lst (sv (ls.take c) ++ [V.str zn])) he)))
      refine ⟨_, rfl, _, rfl, _, rfl, l, _, rfl, SqL.of (s5 _ _ hL), fun b hb => ?_⟩
      rw [cut_dp]
      have neb : e ≠ b := ne_of_none upd_same hb
      have hdl : (ls.drop c).length ≤ ls.length := by rw [List.length_drop]; omega
      refine ⟨e, b, _, _, rfl, rfl, by rw [upd_ne neb]; exact upd_same, upd_same, by rw [List.length_append, len_sv, len_sv]; show _ + 1 + _ ≤ _; omega, fun d hd => ?_⟩
      refine fin d (ls.take c) [zn] (ls.drop c) _ (s5.trans ((same_new hb).trans (same_new hd))) (by rw [upd_same]; rfl) ?_
      rw [wt_one]
      have := wt_td ls c
      omega
    refine ⟨_, rfl, rfl, _, rfl, ite2 (fun hb => ?_) (fun hb => ?_)⟩
    · refine ⟨_, rfl, _, rfl, _, rfl, l, _, rfl, SqL.of hL1, fun a ha => ⟨_, rfl, _, rfl, _, _, rfl, rfl, _, rfl, l, _, rfl, SqL.of (same_new ha _ _ hL1), fun b hb => ?_⟩⟩
      have nab : a ≠ b := ne_of_none upd_same hb
      rw [cut_tk] at hb ⊢
      rw [hn1, cut_dp]
      refine ⟨a, b, _, _, rfl, rfl, by rw [upd_ne nab]; exact upd_same, upd_same, by rw [len_sv, len_sv, List.length_take, List.length_drop]; omega, fun c hc => ?_⟩
      refine fin2 c _ _ _ (s1.trans <| (same_new ha).trans ((same_new hb).trans (same_new hc))) upd_same ?_
      have := wt_td ls n
      have := wt_drop1 ls n
      omega
    refine ⟨_, rfl, rfl, _, rfl, ite2 (fun hb => ?_) (fun hb => ?_)⟩
    · refine ⟨_, rfl, l, _, rfl, .inl (SqL.of hL1), fun x hx => ?_⟩
      have sx := same_new (o := .lst (sv ls)) hx
      have hk' : ixN (sv ls).length (n : Int) = some n := ixN_of (by omega)
      have hm' : ixN (sv (ls.set n zm)).length (m : Int) = some m := ixN_of (by rw [len_sv, List.length_set]; omega)
      refine ⟨_, rfl, _, rfl, _, _, _, _, rfl, rfl, SqL.of (sx _ _ hL1), em, ?_⟩
      refine ⟨_, rfl, _, rfl, x, sv ls, _, n, rfl, rfl, upd_same, hk', ?_⟩
      rw [upd_upd, show (sv ls).set n (V.str zm) = sv (ls.set n zm) from List.map_set.symm]
      have sx2 : ∀ o, Same H (upd H1 x o) := fun o => s1.trans (same_new hx)
      refine ⟨_, rfl, _, rfl, _, _, _, _, rfl, rfl, SqL.of (sx2 _ _ _ hL), en, ?_⟩
      refine ⟨_, rfl, _, rfl, x, sv (ls.set n zm), _, m, rfl, rfl, upd_same, hm', ?_⟩
      rw [upd_upd, show (sv (ls.set n zm)).set m (V.str zn) = sv ((ls.set n zm).set m zn) from List.map_set.symm]
      refine ⟨_, rfl, k x _ _ (sx2 _) upd_same ?_⟩
      have := wt_set ls n zm
      have := wt_set (ls.set n zm) m zn
      omega
    refine ⟨_, rfl, rfl, _, rfl, ite2 (fun hb => ?_) (fun hb => ?_)⟩
    · have x40 := Int.emod_nonneg x2 (show (4 : Int) ≠ 0 by decide)
      have x41 := Int.emod_lt_of_pos x2 (show (0 : Int) < 4 by decide)
      refine ⟨_, rfl, _, rfl, _, rfl, _, _, rfl, rfl, _, _, _, _, rfl, rfl, hS1, e2, .inl ⟨_, rfl, _, _, rfl, rfl, by show (0 : Int) < 4; decide, _, _, rfl, rfl, _, rfl, l, _, rfl, .inl (SqL.of hL1), _, _, rfl, rfl, ?_⟩⟩
      dsimp only
      generalize hz : (48 : Int) + x2 % 4 - (((sv ls).length : Nat) : Int) = z
      have hz1 : z ≤ 50 := by omega
      obtain ⟨zl, ml, el⟩ := at_last hpos
      have wl := wt_mem ml
      refine ⟨z, rfl, by have : (ls.length : Int) < 2 ^ 60 := (by omega); omega, by omega, fun D hD => lc_range (n := z.toNat) (PvS H1 D fun i => sv (List.replicate i zl)) (pv0 hD rfl) ?_ ?_⟩
      · rintro j H3 hj q
        refine ⟨rfl, _, rfl, _, rfl, l, _, _, _, rfl, rfl, q.1.seq (SqL.of hL1), el, q.push hD ?_ ?_⟩
        · show sv (List.replicate (j + 1) zl) = _
          rw [List.replicate_succ', sv_snoc]
        · show (sv (List.replicate j zl)).length ≤ 1000000
          rw [len_sv, List.length_replicate]; omega
      rintro H3 ⟨s3, h3⟩
      have s13 := s1.trans s3
      have h3 : H3 D = some (.lst (sv (List.replicate z.toNat zl))) := h3
      refine ⟨l, D, _, _, rfl, rfl, s13 _ _ hL, h3, by rw [len_sv, len_sv, List.length_replicate]; omega, fun c hc => ?_⟩
      refine fin2 c ls (List.replicate z.toNat zl) _ (s13.trans (same_new hc)) upd_same ?_
      rw [wt_rep]
      have : z.toNat * (zl.length + 1) ≤ 50 * wt ls := Nat.mul_le_mul (by omega) wl
      omega
    -- more columns
    obtain ⟨z0, m0, e0⟩ := at_sv (ss := ls) (j := 0) (by omega) (by omega)
    have wz := wt_mem m0
    refine ⟨_, rfl, _, _, _, _, rfl, rfl, SqL.of hL1, e0, ⟨_, rfl⟩, z0, _, rfl, rfl, sp0, by omega, fun w2 hw2 => ?_⟩
    have s2 := s1.trans (same_new (o := .lst ((Txt.split z0 " ").map V.str)) hw2)
    have hws2 := wt_split z0 ls_sp
    have h2w := upd_same (H := H1) (a := w2) (o := .lst (sv (Txt.split z0 " ")))
    have hw20 : H w2 = none := by
      cases e : H w2 with
      | none => rfl
      | some o => rw [s1 _ _ e] at hw2; cases hw2
    generalize Txt.split z0 " " = ws2 at s2 hws2 h2w ⊢
    generalize hX : upd H1 w2 _ = H2 at s2 h2w ⊢
    clear hX
    have hwl3 := wt_len ws2
    have x30 := Int.emod_nonneg x2 (show (3 : Int) ≠ 0 by decide)
    have x31 := Int.emod_lt_of_pos x2 (show (0 : Int) < 3 by decide)
    refine ⟨14, rfl, by decide, by decide, for_range (n := 14) (fun j σ H3 => ∃ (ws3 : List Str) (u9 : Option V), σ = [some (.ref l), some (.int way), some (.ref p), some (.int i), some (.int (n : Nat)), some (.int (m : Nat)), some (.ref w2), none, none, u9] ∧ Same H H3 ∧ H3 w2 = some (.lst (sv ws3)) ∧ wt ws3 ≤ wt ws2 + 9 * j) ⟨ws2, none, rfl, s2, h2w, Nat.le_refl _⟩ ?_ ?_⟩
    · rintro j σ H3 hj ⟨ws3, u9, rfl, s3, h3, hw3⟩
      have hwl4 := wt_len ws3
      refine ⟨_, rfl, w2, _, rfl, .inl (SqL.of h3), _, rfl, _, rfl, _, _, rfl, rfl, _, _, _, _, rfl, rfl, s3.seq hS, e2, .inl ⟨_, rfl, _, _, rfl, rfl, by show (0 : Int) < 3; decide, _, _, rfl, rfl, _, _, rfl, rfl, _, rfl, ite2 (fun hb => ?_) (fun hb => ?_)⟩⟩
      · have hlt : ws3.length ≤ 25 := by have := of_decide_eq_true hb; rw [len_sv] at this; omega
        refine ⟨_, rfl, .inl ⟨rfl, _, SqL.of h3⟩, _, rfl, w2, ws3, "q", rfl, SqL.of h3, hlt, ⟨by decide, by decide, by unfold Letters; decide⟩, fun z' gz nz => ⟨w2, _, _, rfl, rfl, h3, by rw [len_sv]; omega, ws3 ++ [z'], _, rfl, fun b o e => ?_, ?_, ?_⟩⟩
        · rw [upd_ne (ne_of_none e hw20)]; exact s3 _ _ e
        · rw [sv_snoc]; exact upd_same
        · rw [wt_app, wt_one]; have := gz.le; omega
      · exact ⟨ws3, _, rfl, s3, h3, by omega⟩
    · rintro σ H3 ⟨ws3, u9, rfl, s3, h3, hw3⟩
      have wj := wt_join ls_sp ws3
      refine ⟨⟨_, rfl⟩, _, rfl, _, w2, _, rfl, rfl, .inl (SqL.of h3), by rw [wj.1]; omega, by show 1 ≤ sizeLine; decide, fun a ha => ?_⟩
      have sa := s3.trans (same_new (o := .lst [V.str (Txt.join " " ws3)]) ha)
      refine ⟨_, rfl, _, rfl, l, _, rfl, SqL.of (sa _ _ hL), fun b hb => ?_⟩
      rw [show (1 : Int) = ((1 : Nat) : Int) from rfl, cut_dp]
      have nab : a ≠ b := ne_of_none upd_same hb
      refine ⟨a, b, _, _, rfl, rfl, by rw [upd_ne nab]; exact upd_same, upd_same, by rw [len_sv, List.length_drop]; show 1 + _ ≤ _; omega, fun c hc => ?_⟩
      refine fin2 c [_] (ls.drop 1) _ (sa.trans ((same_new hb).trans (same_new hc))) (by rw [upd_same]; rfl) ?_
      rw [wt_one]
      have := wt_drop ls 1
      omega
end
end My
set_option maxRecDepth 100000
set_option maxHeartbeats 4000000
set_option exponentiation.threshold 10000
namespace My
open PySem L2
theorem count_sv (ws : List Str) (y : Str) : (sv ws).countP (fun z => eqV z (.str y)) = @List.count Str instBEqOfDecidableEq y ws := by
  rw [List.countP_map, List.count_eq_countP]
  congr 1
theorem nodup_count (ws : List Str) : ws.Nodup ↔ ∀ y ∈ ws, (sv ws).countP (fun z => eqV z (.str y)) ≤ 1 := by
  rw [@List.nodup_iff_count Str instBEqOfDecidableEq _ ws]
  constructor
  · intro h y _; rw [count_sv]; exact h y
  · intro h y
    by_cases hy : y ∈ ws
    · rw [← count_sv]; exact h y hy
    · rw [@List.count_eq_zero_of_not_mem Str instBEqOfDecidableEq _ _ _ hy]; exact Nat.zero_le _
theorem alpha_has : ∀ c : Nat, (("abcdefghijklmnopqrstuvwxyz" : Str)).cps.contains c = true ↔ 97 ≤ c ∧ c ≤ 122 := by
  intro c
  rw [Array.contains_iff_mem]
  have e : (("abcdefghijklmnopqrstuvwxyz" : Str)).cps.toList = (List.range 26).map (97 + ·) := by decide +kernel
  rw [← Array.mem_toList_iff, e, List.mem_map]
  constructor
  · rintro ⟨a, ha, rfl⟩
    have := List.mem_range.mp ha
    omega
  · rintro ⟨h1, h2⟩
    exact ⟨c - 97, List.mem_range.mpr (by omega), by omega⟩
theorem strip_ok {z : Str} : Txt.stripChars z "abcdefghijklmnopqrstuvwxyz" = Str.empty ↔ Letters z.cps.toList := by
  rw [strip_all]
  exact ⟨fun h c hc => (alpha_has c).mp (h c hc), fun h c hc => (alpha_has c).mpr (h c hc)⟩
section
variable {P : Program} {w : World} {K : PySem.W.Frag} {mg : Str → Option Value} {base : Heap} {A : Ad}
def spEdited (K : PySem.W.Frag) : Sp := fun vs H Q _ => ∃ (p : Addr) (X : Str) (ns : List Int) (i : Int), vs = [.str X, .ref p, .int i] ∧ SqL K H p (ns.map V.int) ∧ Pool ns ∧ 0 ≤ i ∧ i + 3 < ns.length ∧ 51 * (X.length + 1) + 150 ≤ 15500000 ∧
  ∀ (X' : Str) H', Same H H' → X'.length ≤ 51 * (X.length + 1) + 150 → Q (.str X') H'
theorem ok_edited (T : Txt P K mg A) : FnOk P w K mg base CX0 3 A.a_law_edited A.d_law_edited ["text", "pool", "at"] (spEdited K) := by
  have G_law_lines_edited := ok_linesEd (P := P) (w := w) (base := base) T
  have G_law_sign := ok_sign (P := P) (w := w) (base := base) T
  refine T.F_law_edited.ok sc_law_edited (fun vs H Q E h => ?_) (fun cdv A' outer s H vs Q E hr h => ?_)
  · obtain ⟨p, X, ns, i, rfl, _⟩ := h
    rfl
  · obtain ⟨p, X, ns, i, rfl, hS, hp, i0, i3, hX, k⟩ := h
    refine ⟨_, (pss_cons (ps_set (i := 3) sc_law_edited.nd rfl (Or.inl rfl) (pe_op op_mod (pe_callTy call_int1 (by rfl) T.n_int (by decide +kernel) (pa_cons (pe_ix ix_list (pv 1) (pv 2) (fun _ _ => rfl)) pa_nil)) pe_int))
      (pss_cons (ps_if (pt_cmpR op_gt (pv 3) pe_int (nomark _)) (pss_one (ps_ret (pe_join pe_str (pe_call G_law_lines_edited (hr.mono (by decide)) rfl T.mg_law_lines_edited T.F_law_lines_edited.kp T.b_law_lines_edited .nil pass0 (pa_cons (pe_m1 PySem.F.slot_str_split PySem.F.type_str_split mt_split (pv 0) pe_str) (pa_cons (pv 3) (pa_cons (pv 1) (pa_cons (pv 2) pa_nil)))))))) pss_nil)
      (pss_cons (ps_set (i := 4) sc_law_edited.nd rfl (Or.inl rfl) (pe_op op_mod (pe_callTy call_int1 (by rfl) T.n_int (by decide +kernel) (pa_cons (pe_ix ix_list (pv 1) (pe_op op_add (pv 2) pe_int) (fun _ _ => rfl)) pa_nil)) (pe_op op_add (pe_callB call_len_str (by rfl) T.n_len (by decide +kernel) (pa_cons (pv 0) pa_nil)) pe_int)))
      (pss_cons (ps_if (pt_cmpR op_eq (pv 3) pe_int (nomark _)) (pss_one (ps_ret (pe_op op_add_str (pe_op op_add_str (pe_slice sl_str (pv 0) po_none (po_some (pv 4))) (pe_call G_law_sign (hr.mono (by decide)) rfl T.mg_law_sign T.F_law_sign.kp T.b_law_sign .nil pass0 (pa_cons (pe_ix ix_list (pv 1) (pe_op op_add (pv 2) pe_int) (fun _ _ => rfl)) pa_nil))) (pe_slice sl_str (pv 0) (po_some (pv 4)) po_none)))) pss_nil)
      (pss_cons (ps_if (pt_cmpR op_eq (pv 3) pe_int (nomark _)) (pss_one (ps_ret (pe_op op_add_str (pe_slice sl_str (pv 0) po_none (po_some (pv 4))) (pe_slice sl_str (pv 0) (po_some (pe_op op_add (pv 4) pe_int)) po_none)))) pss_nil)
      (pss_one (ps_ret (pe_op op_add_str (pe_op op_add_str (pe_slice sl_str (pv 0) po_none (po_some (pv 4))) (pe_call G_law_sign (hr.mono (by decide)) rfl T.mg_law_sign T.F_law_sign.kp T.b_law_sign .nil pass0 (pa_cons (pe_ix ix_list (pv 1) (pe_op op_add (pv 2) pe_int) (fun _ _ => rfl)) pa_nil))) (pe_slice sl_str (pv 0) (po_some (pe_op op_add (pv 4) pe_int)) po_none))))))))), ?_⟩
    obtain ⟨x0, m0, e0⟩ := atI_ok (xs := ns) (j := i) (by omega) (by omega)
    obtain ⟨x1, m1, e1⟩ := atI_ok (xs := ns) (j := i + 1) (by omega) (by omega)
    obtain ⟨x2, m2, e2⟩ := atI_ok (xs := ns) (j := i + 2) (by omega) (by omega)
    have hb2 := hp x2 m2
    have big : 15600000 ≤ sizeLine := by decide
    refine ⟨_, rfl, _, rfl, _, _, _, _, rfl, rfl, hS, e0, .inl ⟨_, rfl, _, _, rfl, rfl, by show (0 : Int) < 9; decide, ?_⟩⟩
    dsimp only
    generalize x0 % 9 = way
    refine ⟨_, rfl, _, _, rfl, rfl, _, rfl, ite2 (fun hb => ?_) (fun hb => ?_)⟩
    · refine ⟨⟨_, rfl⟩, _, rfl, ⟨_, rfl⟩, X, _, rfl, rfl, nl0, by omega, fun a ha => ⟨_, rfl, _, rfl, _, rfl, a, p, Txt.split X "\n", ns, way, i, rfl, upd_same, (same_new ha).seq hS, hp, i0, i3, split_ne _ _, ?_, fun r ls' H' s' hr' hw' => ?_⟩⟩
      · have := wt_split X ls_nl; omega
      · have hws := wt_split X ls_nl
        have wj := wt_join ls_nl ls'
        exact ⟨_, r, ls', rfl, rfl, .inl (SqL.of hr'), by rw [wj.1]; omega, k _ _ ((same_new ha).trans s') (by omega)⟩
    have lp : (0 : Int) < (X.length : Int) + 1 := by omega
    refine ⟨_, rfl, _, rfl, _, _, rfl, rfl, _, _, _, _, rfl, rfl, hS, e1, .inl ⟨_, rfl, _, rfl, X, rfl, by omega, _, _, rfl, rfl, _, _, rfl, rfl, lp, ?_⟩⟩
    have k0 := Int.emod_nonneg x1 (show (X.length : Int) + 1 ≠ 0 by omega)
    have k1 := Int.emod_lt_of_pos x1 lp
    dsimp only
    generalize x1 % ((X.length : Int) + 1) = kk at k0 k1 ⊢
    obtain ⟨n, rfl⟩ := Int.eq_ofNat_of_zero_le k0
    have hn1 : ((n : Int) + 1) = ((n + 1 : Nat) : Int) := by omega
    have c1 := cutS_tk X n
    have c2 := cutS_dp X n
    have c3 := cutS_dp X (n + 1)
    refine ⟨_, rfl, rfl, _, rfl, ite2 (fun hb => ?_) (fun hb => ?_)⟩
    · refine ⟨_, rfl, _, rfl, _, rfl, X, rfl, by omega, _, rfl, _, rfl, _, _, rfl, rfl, _, _, _, _, rfl, rfl, hS, e2, x2, rfl, hb2.1, fun z hz => ⟨_, _, rfl, rfl, by omega, _, rfl, _, rfl, _, rfl, X, rfl, by omega, _, _, rfl, rfl, ?_, k _ H (Same.refl _) ?_⟩⟩
      · rw [Str.length_append]; omega
      · rw [Str.length_append, Str.length_append]; omega
    refine ⟨_, rfl, rfl, _, rfl, ite2 (fun hb => ?_) (fun hb => ?_)⟩
    · refine ⟨_, rfl, _, rfl, _, rfl, X, rfl, by omega, _, rfl, _, rfl, _, _, rfl, rfl, _, rfl, X, rfl, by omega, _, _, rfl, rfl, ?_, k _ H (Same.refl _) ?_⟩
      · rw [hn1]; omega
      · rw [Str.length_append, hn1]; omega
    · refine ⟨_, rfl, _, rfl, _, rfl, X, rfl, by omega, _, rfl, _, rfl, _, _, rfl, rfl, _, _, _, _, rfl, rfl, hS, e2, x2, rfl, hb2.1, fun z hz => ⟨_, _, rfl, rfl, by omega, _, rfl, _, rfl, _, _, rfl, rfl, _, rfl, X, rfl, by omega, _, _, rfl, rfl, ?_, k _ H (Same.refl _) ?_⟩⟩
      · rw [Str.length_append, hn1]; omega
      · rw [Str.length_append, Str.length_append, hn1]; omega
def spDiff (K : PySem.W.Frag) : Sp := fun vs H Q _ => ∃ (l q : Addr) (ws ks : List Str), vs = [.ref l, .ref q] ∧ SqL K H l (sv ws) ∧ SqL K H q (sv ks) ∧ ∀ b : Bool, (b = true ↔ ws.Nodup ∧ ∀ x ∈ ws, x ∈ ks) → Q (.bl b) H
theorem ok_diff (T : Txt P K mg A) : FnOk P w K mg base CX0 1 A.a_law_different A.d_law_different ["words", "known"] (spDiff K) := by
  refine T.F_law_different.ok sc_law_different (fun vs H Q E h => ?_) (fun cdv A' outer s H vs Q E hr h => ?_)
  · obtain ⟨l, q, ws, ks, rfl, _⟩ := h
    rfl
  · obtain ⟨l, q, ws, ks, rfl, hl, hq, k⟩ := h
    refine ⟨_, (pss_cons (ps_for PassesOwn.never rfl (pi_list (pv 0)) (pg_name (i := 2) sc_law_different.nd rfl (Or.inl rfl))
        (pss_one (ps_if (PW.pt (pw_or (pt_cmpR op_gt (pe_bm PySem.F.plainAttrs_list PySem.F.slot_list_count PySem.F.type_list_count mt_fcount (pv 0) (pa_cons (pv 2) pa_nil)) pe_int (nomark _)) (pw_or1 (pt_cmpR op_notIn_seq (pv 2) (pv 1) (by with_unfolding_all rfl))))) (pss_one (ps_ret pe_bl)) pss_nil)))
      (pss_one (ps_ret pe_bl))), ?_⟩
    refine ⟨_, rfl, l, rfl, ⟨_, hl⟩, for_it walk_list (fun i σ H2 => H2 = H ∧ (∀ x ∈ ws.take i, (sv ws).countP (fun z => eqV z (.str x)) ≤ 1 ∧ x ∈ ks) ∧ ∃ u : Option V, σ = [some (.ref l), some (.ref q), u]) ⟨rfl, fun x hx => by simp at hx, none, rfl⟩ (fun i σ H2 _ p => by rw [p.1]; exact hl) ?_ ?_⟩
    · rintro i x σ H20 H2 hi ⟨rfl, hall, u, rfl⟩ ⟨rfl, hx⟩
      obtain ⟨z, hz, rfl⟩ := sv_get hx
      have hm := List.mem_of_getElem? hz
      refine ⟨_, rfl, .inl ⟨rfl, _, hl⟩, _, rfl, l, _, _, rfl, rfl, hl, rfl, flat_sv _, _, _, rfl, rfl, _, rfl, ?_⟩
      by_cases hc : (sv ws).countP (fun y => eqV y (.str z)) ≤ 1
      · refine itN (by omega) ⟨_, rfl, _, rfl, q, _, rfl, .inl hq, rfl, flat_sv _, _, rfl, ?_⟩
        rw [if_pos (rfl : true = true), inV_str]
        by_cases hk : z ∈ ks
        · refine ifF (by rw [decide_eq_true hk]; rfl) ⟨rfl, fun x hx => ?_, _, rfl⟩
          rw [take_succ hz] at hx
          rcases List.mem_append.mp hx with hx | hx
          · exact hall x hx
          · rw [List.mem_singleton.mp hx]; exact ⟨hc, hk⟩
        · exact ifT (by rw [decide_eq_false hk]; rfl) (k false ⟨fun e => (nomatch e), fun e => absurd (e.2 z hm) hk⟩)
      · exact itY (by omega) (ifT rfl (k false ⟨fun e => (nomatch e), fun e => absurd ((nodup_count ws).mp e.1 z hm) hc⟩))
    · rintro σ H2 ⟨rfl, hall, u, rfl⟩
      rw [len_sv, List.take_length] at hall
      exact k true ⟨fun _ => ⟨(nodup_count ws).mpr fun y hy => (hall y hy).1, fun x hx => (hall x hx).2⟩, fun _ => rfl⟩
end
end My
set_option maxRecDepth 100000
set_option maxHeartbeats 4000000
set_option exponentiation.threshold 10000
namespace My
open PySem L2
theorem empty_eq : ("" : Str) = Str.empty := by decide
theorem filter_T {l : List Str} {z : Str} (hm : okName z = true) : (l ++ [z]).filter okName = l.filter okName ++ [z] := by
  rw [List.filter_append]; simp [hm]
theorem filter_F {l : List Str} {z : Str} (hm : okName z = false) : (l ++ [z]).filter okName = l.filter okName := by
  rw [List.filter_append]; simp [hm]
theorem okName_and {z : Str} : okName z = true ↔ Txt.stripChars z "abcdefghijklmnopqrstuvwxyz" = ("" : Str) ∧ (0 < z.length ∧ z.length < 9) := by
  rw [okName_iff, empty_eq, strip_ok]
  exact ⟨fun g => ⟨g.let_, by have := g.pos; omega, by have := g.le; omega⟩, fun ⟨a, b, c⟩ => ⟨by omega, by omega, a⟩⟩
section
variable {P : Program} {w : World} {K : PySem.W.Frag} {mg : Str → Option Value} {base : Heap} {A : Ad}
def spDescr : Sp := fun vs H Q _ => ∃ X : Str, vs = [.str X] ∧ X.length ≤ 15100000 ∧ ∀ o D c r H', Told (lns X) o → Same H H' → H' D = some (.lst [optV o, .ref c, .ref r]) →
  (o = none → ∃ (ws : List Str) (us : List Addr), GoodT (lns X) ws ∧ H' c = some (.lst (sv ws.tail)) ∧ H' r = some (.lst (us.map V.ref)) ∧ Lss .lst H' us ((lns X).tail.map List.tail)) → Q (.ref D) H'
theorem ok_descr (T : Txt P K mg A) : FnOk P w K mg base CX0 2 A.a_law_described A.d_law_described ["text"] spDescr := by
  have G_law_different := ok_diff (P := P) (w := w) (base := base) T
  refine T.F_law_described.ok sc_law_described (fun vs H Q E h => ?_) (fun cdv A' outer s H vs Q E hr h => ?_)
  · obtain ⟨X, rfl, _⟩ := h
    rfl
  · obtain ⟨X, rfl, hX, k⟩ := h
    refine ⟨_, (pss_cons (ps_set (i := 1) sc_law_described.nd rfl (Or.inl rfl) (pe_m1 PySem.F.slot_str_split PySem.F.type_str_split mt_split (pv 0) pe_str))
      (pss_cons (ps_set (i := 2) sc_law_described.nd rfl (Or.inl rfl) (pe_slice sl_list (pe_m1 PySem.F.slot_str_split PySem.F.type_str_split mt_split (pe_ix ix_list (pv 1) pe_int (fun _ _ => rfl)) pe_str) (po_some pe_int) po_none))
      (pss_cons (ps_setLc (i := 3) (own := [("word", 7)]) (g := gName 7) (tt := _) rfl sc_law_described.nd rfl rfl (sw_true rfl rfl rfl (by decide +kernel)) (pi_list (pv 2)) (blkOk_by (N := ["text", "lines", "columns", "good", "rows", "k", "words", "word"]) (sc := defScope s_law_described) (by decide +kernel)) (fun _ _ _ _ _ => (pg_name (i := 7) sc_law_described.nd rfl (Or.inl rfl))) (fun _ _ _ _ _ => (pts_one (PW.pt (pw_and (pt_cmpR op_eq (pe_m1 PySem.F.slot_str_strip PySem.F.type_str_strip mt_stripChars (pv 7) pe_str) pe_str (nomark _)) (pw_and1 (pt_chain op_lt op_lt pe_int (pe_callB call_len_str (by rfl) T.n_len (by decide +kernel) (pa_cons (pv 7) pa_nil)) pe_int)))))) (fun _ _ _ _ _ => (pv 7)))
      (pss_cons (ps_if (PW.pt (pw_or (pt_cmpR op_ne (pe_ix ix_list (pe_m1 PySem.F.slot_str_split PySem.F.type_str_split mt_split (pe_ix ix_list (pv 1) pe_int (fun _ _ => rfl)) pe_str) pe_int (fun _ _ => rfl)) pe_str (nomark _)) (pw_or (pt_cmpR op_gt (pe_callB call_len_seq (by rfl) T.n_len (by decide +kernel) (pa_cons (pv 2) pa_nil)) pe_int (nomark _)) (pw_or1 (pt_not (pt_val (pe_call G_law_different (hr.mono (by decide)) rfl T.mg_law_different T.F_law_different.kp T.b_law_different .nil pass0 (pa_cons (pv 2) (pa_cons (pv 3) pa_nil))))))))) (pss_one (ps_ret (pe_lst (pa_cons pe_int (pa_cons (pe_lst pa_nil) (pa_cons (pe_lst pa_nil) pa_nil)))))) pss_nil)
      (pss_cons (ps_set (i := 4) sc_law_described.nd rfl (Or.inl rfl) (pe_lst pa_nil))
      (pss_cons (ps_for PassesOwn.never rfl (pi_range2 (by rfl) T.n_range (pa_cons pe_int (pa_cons (pe_callB call_len_seq (by rfl) T.n_len (by decide +kernel) (pa_cons (pv 1) pa_nil)) pa_nil))) (pg_name (i := 5) sc_law_described.nd rfl (Or.inl rfl))
        (pss_cons (ps_set (i := 6) sc_law_described.nd rfl (Or.inl rfl) (pe_m1 PySem.F.slot_str_split PySem.F.type_str_split mt_split (pe_ix ix_list (pv 1) (pv 5) (fun _ _ => rfl)) pe_str))
      (pss_cons (ps_if (PW.pt (pw_or (pt_cmpR op_gt (pv 5) pe_int (nomark _)) (pw_or (pt_cmpR op_ne (pe_ix ix_list (pv 6) pe_int (fun _ _ => rfl)) pe_str (nomark _)) (pw_or1 (pt_not (pt_val (pe_call G_law_different (hr.mono (by decide)) rfl T.mg_law_different T.F_law_different.kp T.b_law_different .nil pass0 (pa_cons (pe_slice sl_list (pv 6) (po_some pe_int) po_none) (pa_cons (pv 2) pa_nil))))))))) (pss_one (ps_ret (pe_lst (pa_cons (pv 5) (pa_cons (pe_lst pa_nil) (pa_cons (pe_lst pa_nil) pa_nil)))))) pss_nil)
      (pss_one (ps_expr (pe_bm PySem.F.plainAttrs_list PySem.F.slot_list_append PySem.F.type_list_append mt_append (pv 4) (pa_cons (pe_slice sl_list (pv 6) (po_some pe_int) po_none) pa_nil)))))))
      (pss_one (ps_ret (pe_lst (pa_cons pe_non (pa_cons (pv 2) (pa_cons (pv 4) pa_nil)))))))))))), ?_⟩
    have big : 15600000 ≤ sizeLine := by decide
    have hle := lns_le X
    have lp := lns_pos X
    refine ⟨_, rfl, ⟨_, rfl⟩, X, _, rfl, rfl, nl0, by omega, fun L hL => ?_⟩
    have s1 := same_new (o := .lst ((Txt.split X "\n").map V.str)) hL
    have hL1 := upd_same (H := H) (a := L) (o := .lst (sv (Txt.split X "\n")))
    generalize hX1 : upd H L _ = H1 at s1 hL1 ⊢
    clear hX1
    have elns : ∀ i z, (Txt.split X "\n")[i]? = some z → (lns X)[i]? = some (Txt.split z " ") := fun i z hz => by unfold lns; rw [List.getElem?_map, hz]; rfl
    have hSl : (Txt.split X "\n").length = (lns X).length := (lns_len X).symm
    have hz0 : (Txt.split X "\n")[0]? = some (Txt.split X "\n")[0] := List.getElem?_eq_getElem (by omega)
    have at0 : atI (sv (Txt.split X "\n")) 0 = some (V.str (Txt.split X "\n")[0]) := by
      show atI _ ((0 : Nat) : Int) = _
      exact atI_nat (by rw [List.getElem?_map, hz0]; rfl)
    have e0 := elns 0 _ hz0
    have l0 := piece_len ls_nl (List.mem_of_getElem? hz0)
    have lw0 := lns_word (List.mem_of_getElem? e0)
    generalize (Txt.split X "\n")[0] = z0 at hz0 at0 e0 l0 lw0
    refine ⟨_, rfl, L, _, _, _, rfl, rfl, SqL.of hL1, at0, ⟨_, rfl⟩, z0, _, rfl, rfl, sp0, by omega, fun a ha => ⟨_, rfl, a, _, rfl, SqL.of upd_same, fun c hc => ?_⟩⟩
    have s2 := s1.trans ((same_new (o := .lst (sv (Txt.split z0 " "))) ha).trans (same_new (o := .lst (cutV (sv (Txt.split z0 " ")) (some 1) none)) hc))
    have hL2 := ((same_new (o := .lst (sv (Txt.split z0 " "))) ha).trans (same_new (o := .lst (cutV (sv (Txt.split z0 " ")) (some 1) none)) hc)) _ _ hL1
    have hc2 := upd_same (H := upd H1 a (.lst (sv (Txt.split z0 " ")))) (a := c) (o := .lst (cutV (sv (Txt.split z0 " ")) (some 1) none))
    rw [cut_tail] at hc2 hL2 s2
    show _
    generalize hw0 : Txt.split z0 " " = w0 at e0 lw0 hc2 hL2 s2 ⊢
    rw [cut_tail]
    generalize hX2 : upd (upd H1 a _) c _ = H2 at hc2 hL2 s2 ⊢
    clear hX2 hc ha
    refine ⟨_, rfl, c, rfl, ⟨_, SqL.of hc2⟩, fun G hG => lc_it walk_list (PvS H2 G fun i => sv ((w0.tail.take i).filter okName)) (pv0 hG rfl) (fun i H3 _ q => q.1.seq (SqL.of hc2)) ?_ ?_⟩
    · rintro i x H30 H3 hi q ⟨rfl, hx⟩
      obtain ⟨z, hz, rfl⟩ := sv_get hx
      have hzl := lw0.2.2 z (List.mem_of_mem_tail (List.mem_of_getElem? hz))
      have hlen : (sv ((w0.tail.take i).filter okName)).length ≤ 15100001 := by
        have h1 := List.length_filter_le okName (w0.tail.take i)
        have h2 : (w0.tail.take i).length ≤ w0.tail.length := by rw [List.length_take]; omega
        rw [len_sv]
        rw [List.length_tail] at h2
        have := lw0.2.1
        omega
      have stepT : okName z = true → sv ((w0.tail.take (i + 1)).filter okName) = sv ((w0.tail.take i).filter okName) ++ [V.str z] := fun h => by rw [take_succ hz, filter_T h, sv_snoc]
      have stepF : okName z = false → sv ((w0.tail.take (i + 1)).filter okName) = sv ((w0.tail.take i).filter okName) := fun h => by rw [take_succ hz, filter_F h]
      have no : ¬ (Txt.stripChars z "abcdefghijklmnopqrstuvwxyz" = ("" : Str) ∧ (0 < z.length ∧ z.length < 9)) → okName z = false := fun h => by
        cases e : okName z with
        | false => rfl
        | true => exact absurd (okName_and.mp e) h
      refine ⟨rfl, _, rfl, ⟨_, rfl⟩, z, _, rfl, rfl, by omega, rfl, _, rfl, ?_⟩
      by_cases h1 : Txt.stripChars z "abcdefghijklmnopqrstuvwxyz" = ("" : Str)
      · refine ifT (decide_eq_true (congrArg V.str h1)) ?_
        refine ⟨_, rfl, z, rfl, by omega, _, _, rfl, rfl, _, rfl, ?_⟩
        by_cases h2 : 0 < z.length
        · refine itY (by omega) ⟨_, _, rfl, rfl, _, rfl, ?_⟩
          by_cases h3 : z.length < 9
          · refine itY (by omega) ⟨_, rfl, ?_⟩
            refine ⟨_, q.2, Nat.lt_of_le_of_lt hlen (by decide), fun b o e => ?_, ?_⟩
            · rw [upd_ne (ne_of_none e hG)]; exact q.1 _ _ e
            · show _ = some (HO.lst (sv ((w0.tail.take (i + 1)).filter okName)))
              rw [stepT (okName_and.mpr ⟨h1, h2, h3⟩)]; exact upd_same
          · exact itN (by omega) (q.skip (stepF (no fun h => h3 h.2.2)))
        · exact itN (by omega) ⟨_, rfl, iteF (q.skip (stepF (no fun h => h2 h.2.1)))⟩
      · exact ifF (decide_eq_false fun e => h1 (V.str.inj e)) (iteF (q.skip (stepF (no fun h => h1 h.1))))
    rintro H3 ⟨s3, hG3⟩
    have hG3 : H3 G = some (.lst (sv ((w0.tail.take (sv w0.tail).length).filter okName))) := hG3
    rw [len_sv, List.take_length] at hG3
    have s23 := s2.trans s3
    have hL3 := s3 _ _ hL2
    have hc3 := s3 _ _ hc2
    clear s2 s3 hL2 hc2 hG
    -- the first line
    have x0 : w0[0]? = some w0[0] := List.getElem?_eq_getElem lw0.1
    have atw : atI (sv w0) 0 = some (V.str w0[0]) := by
      show atI _ ((0 : Nat) : Int) = _
      exact atI_nat (by rw [List.getElem?_map, x0]; rfl)
    have bad0 : ¬ ColsOk w0 → ∀ H', Same H H' → ∀ a b, H' a = none → ∀ D H'', Same H' H'' → H'' D = some (.lst [V.int 0, .ref a, .ref b]) → Q (.ref D) H'' := fun hn H' s' a b _ D H'' s'' hD => k (some 0) D a b H'' (told_0 e0 hn) (s'.trans s'') hD fun z => nomatch z
    refine ⟨_, rfl, L, _, _, _, rfl, rfl, SqL.of hL3, at0, ⟨_, rfl⟩, z0, _, rfl, rfl, sp0, by omega, fun a ha => ?_⟩
    rw [hw0]
    have sa := same_new (o := .lst (sv w0)) ha
    have ha4 := upd_same (H := H3) (a := a) (o := .lst (sv w0))
    generalize hX4 : upd H3 a _ = H4 at sa ha4 ⊢
    clear hX4 ha
    have s4 := s23.trans sa
    have hL4 := sa _ _ hL3
    have hc4 := sa _ _ hc3
    have hG4 := sa _ _ hG3
    clear s23 sa hL3 hc3 hG3
    have ret0 : ¬ ColsOk w0 → ((0 : Nat) ≤ sizeLine ∧ ∀ p, H4 p = none → (0 : Nat) ≤ sizeLine ∧ ∀ q, upd H4 p (.lst []) q = none → (3 : Nat) ≤ sizeLine ∧ ∀ D, upd (upd H4 p (.lst [])) q (.lst []) D = none → Q (.ref D) (upd (upd (upd H4 p (.lst [])) q (.lst [])) D (.lst [V.int 0, .ref p, .ref q]))) := fun hn =>
      ⟨by decide, fun p hp => ⟨by decide, fun q hq => ⟨by decide, fun D hD => k (some 0) D p q _ (told_0 e0 hn) (s4.trans ((same_new hp).trans ((same_new hq).trans (same_new hD)))) upd_same fun z => nomatch z⟩⟩⟩
    refine ⟨a, _, _, _, rfl, rfl, SqL.of ha4, atw, rfl, _, rfl, ?_⟩
    by_cases hw : w0[0] = ("columns" : Str)
    · refine ifF (by rw [hw]; decide +kernel) ?_
      refine ⟨_, rfl, c, _, rfl, .inl (SqL.of hc4), _, _, rfl, rfl, _, rfl, ?_⟩
      by_cases h12 : w0.tail.length ≤ 12
      · refine itN (by rw [len_sv]; omega) ?_
        refine ⟨_, rfl, _, rfl, c, G, w0.tail, w0.tail.filter okName, rfl, SqL.of hc4, SqL.of hG4, fun b hb => ⟨_, rfl, ?_⟩⟩
        have hb2 : b = true ↔ ColsOk w0 := hb.trans ⟨fun ⟨nd, hin⟩ => ⟨by rw [x0, hw], h12, fun x hx => okName_iff.mp (List.mem_filter.mp (hin x hx)).2, nd⟩, fun h => ⟨h.2.2.2, fun x hx => List.mem_filter.mpr ⟨hx, okName_iff.mpr (h.2.2.1 x hx)⟩⟩⟩
        cases b with
        | false => exact ifT rfl (ret0 fun h => nomatch hb2.mpr h)
        | true =>
        have hcol : ColsOk w0 := hb2.mp rfl
        refine ifF rfl ?_
        refine ⟨by show 0 ≤ sizeLine; decide, fun R hR => ?_⟩
        have sR := same_new (o := .lst []) hR
        refine ⟨_, rfl, L, _, rfl, .inl (SqL.of (sR _ _ hL4)), 1, _, rfl, ⟨by decide, by decide, by omega, by rw [len_sv]; omega⟩, ?_⟩
        have hn : ((((sv (Txt.split X "\n")).length : Nat) : Int) - 1).toNat = (lns X).length - 1 := by rw [len_sv, hSl]; omega
        rw [hn]
        refine for_range (n := (lns X).length - 1) (fun j σ H6 => LcL H4 R (((lns X).tail.map List.tail).take j) H6 ∧ (∀ i, 0 < i → i ≤ j → ¬ BadLn w0.tail (lns X) i) ∧ ∃ u5 u6 : Option V, σ = [some (.str X), some (.ref L), some (.ref c), some (.ref G), some (.ref R), u5, u6, none]) ⟨lcl0 hR, fun i a b => by omega, none, none, rfl⟩ ?_ ?_
        · rintro j σ H6 hj ⟨q, hg, u5, u6, rfl⟩
          have s6 := q.1
          have hj1 : (1 : Int) + (j : Int) = ((j + 1 : Nat) : Int) := by omega
          have hjl : j + 1 < (Txt.split X "\n").length := by omega
          have hzj : (Txt.split X "\n")[j + 1]? = some (Txt.split X "\n")[j + 1] := List.getElem?_eq_getElem hjl
          have atj : atI (sv (Txt.split X "\n")) (1 + (j : Int)) = some (V.str (Txt.split X "\n")[j + 1]) := by
            rw [hj1]; exact atI_nat (by rw [List.getElem?_map, hzj]; rfl)
          have ej := elns _ _ hzj
          have lj := piece_len ls_nl (List.mem_of_getElem? hzj)
          have lwj := lns_word (List.mem_of_getElem? ej)
          generalize (Txt.split X "\n")[j + 1] = zj at hzj atj ej lj lwj
          refine ⟨_, rfl, _, rfl, L, _, _, _, rfl, rfl, SqL.of (s6 _ _ hL4), atj, ⟨_, rfl⟩, zj, _, rfl, rfl, sp0, by omega, fun a2 ha2 => ?_⟩
          have sa2 := same_new (o := .lst (sv (Txt.split zj " "))) ha2
          have ha2' := upd_same (H := H6) (a := a2) (o := .lst (sv (Txt.split zj " ")))
          generalize Txt.split zj " " = v at ej lwj sa2 ha2' ⊢
          generalize hX7 : upd H6 a2 _ = H7 at sa2 ha2' ⊢
          clear hX7
          have s7 := s6.trans sa2
          have hj48 : j ≤ 48 := Nat.le_of_not_lt fun z => hg j (by omega) (Nat.le_refl _) (.inl z)
          have retk : BadLn w0.tail (lns X) (j + 1) → ∀ H8, Same H7 H8 → ((0 : Nat) ≤ sizeLine ∧ ∀ p, H8 p = none → (0 : Nat) ≤ sizeLine ∧ ∀ q, upd H8 p (.lst []) q = none → (3 : Nat) ≤ sizeLine ∧ ∀ D, upd (upd H8 p (.lst [])) q (.lst []) D = none → Q (.ref D) (upd (upd (upd H8 p (.lst [])) q (.lst [])) D (.lst [V.int (1 + (j : Int)), .ref p, .ref q]))) := fun hbad H8 s8 =>
            ⟨by decide, fun p hp => ⟨by decide, fun q hq => ⟨by decide, fun D hD => k (some (j + 1)) D p q _ (told_k e0 hcol (Nat.succ_pos _) (by omega) hbad fun i i0 hi => hg i i0 (by omega)) (s4.trans (s7.trans (s8.trans ((same_new hp).trans ((same_new hq).trans (same_new hD)))))) (by rw [upd_same, hj1]; rfl) fun z => nomatch z⟩⟩⟩
          have xv : v[0]? = some v[0] := List.getElem?_eq_getElem lwj.1
          have atv : atI (sv v) 0 = some (V.str v[0]) := by
            show atI _ ((0 : Nat) : Int) = _
            exact atI_nat (by rw [List.getElem?_map, xv]; rfl)
          refine ⟨_, rfl, _, _, rfl, rfl, _, rfl, ?_⟩
          by_cases h48 : (1 : Int) + (j : Int) > 48
          · exact itY h48 (ifT rfl ⟨_, rfl, retk (.inl (by omega)) H7 (Same.refl _)⟩)
          refine itN h48 ⟨_, rfl, a2, _, _, _, rfl, rfl, SqL.of ha2', atv, rfl, _, rfl, ?_⟩
          by_cases hwv : v[0] = ("row" : Str)
          · refine ifF (by rw [hwv]; decide +kernel) ?_
            refine ⟨_, rfl, _, rfl, a2, _, rfl, SqL.of ha2', fun t ht => ?_⟩
            rw [cut_tail]
            have st := same_new (o := .lst (sv v.tail)) ht
            refine ⟨_, rfl, t, c, v.tail, w0.tail, rfl, SqL.of upd_same, st.seq (s7.seq (SqL.of hc4)), fun b hb => ⟨_, rfl, ?_⟩⟩
            have hb2 : b = true ↔ RowOk w0.tail v := hb.trans ⟨fun ⟨nd, hin⟩ => ⟨by rw [xv, hwv], hin, nd⟩, fun h => ⟨h.2.2, h.2.1⟩⟩
            cases b with
            | false => exact ifT rfl ⟨_, rfl, retk (.inr ⟨v, ej, fun h => nomatch hb2.mpr h⟩) _ st⟩
            | true =>
            refine ifF rfl ?_
            have q2 : LcL H4 R (((lns X).tail.map List.tail).take j) (upd H7 t (.lst (sv v.tail))) := by
              obtain ⟨a, us, b, c, d⟩ := q
              have ss := sa2.trans st
              exact ⟨a.trans ss, us, ss _ _ b, c.same ss, d⟩
            obtain ⟨_, us, hR6, hls6, hne6⟩ := id q2
            have ha8 := st _ _ ha2'
            generalize upd H7 t (.lst (sv v.tail)) = H8 at hR6 hls6 q2 ha8 ⊢
            refine ⟨_, rfl, .inl ⟨rfl, _, SqL.of hR6⟩, _, rfl, _, rfl, a2, _, rfl, SqL.of ha8, fun t2 ht2 => ?_⟩
            rw [cut_tail]
            have ek : ((lns X).tail.map List.tail)[j]? = some v.tail := by rw [List.getElem?_map, List.getElem?_tail, ej]; rfl
            obtain ⟨acc, y1, y2, y3⟩ := q2.new (y := v.tail) hR ht2 (by rw [List.length_take]; omega)
            refine ⟨R, acc, _, rfl, rfl, y1, y2, ?_⟩
            rw [take_succ ek]
            refine ⟨y3, fun i i0 hi => ?_, _, _, rfl⟩
            by_cases hij : i ≤ j
            · exact hg i i0 hij
            · have : i = j + 1 := by omega
              subst this
              exact bad_row ej (by omega) (hb2.mp rfl)
          · refine ifT (by rw [decide_eq_false fun e => hwv (V.str.inj e)]; rfl) (ifT rfl ⟨_, rfl, retk (.inr ⟨v, ej, fun h => hwv (by have := h.1; rw [xv] at this; exact Option.some.inj this)⟩) _ (Same.refl _)⟩)
        · rintro σ H6 ⟨⟨s6, us, hR6, hls6, hne6⟩, hg, u5, u6, rfl⟩
          have hT : Told (lns X) none := told_no e0 hcol fun i i0 hi => hg i i0 (by omega)
          obtain ⟨w1, g⟩ := goodT hT
          have : w1 = w0 := by have := g.h0; rw [e0] at this; exact (Option.some.inj this).symm
          subst this
          rw [List.take_of_length_le (by rw [List.length_map, List.length_tail]; exact Nat.le_refl _)] at hls6
          refine ⟨_, rfl, _, rfl, by show 3 ≤ sizeLine; decide, fun D hD => ?_⟩
          have sD := same_new (o := .lst [V.non, .ref c, .ref R]) hD
          exact k none D c R _ hT (s4.trans (s6.trans sD)) upd_same fun _ => ⟨w1, us, g, sD _ _ (s6 _ _ hc4), sD _ _ hR6, hls6.same sD⟩
      · refine itY (by rw [len_sv]; omega) (ifT rfl ?_)
        exact ret0 fun h => h12 h.2.1
    · refine ifT (by rw [decide_eq_false fun e => hw (V.str.inj e)]; rfl) (ifT rfl ?_)
      exact ret0 fun h => hw (by have := h.1; rw [x0] at this; exact Option.some.inj this)
end
end My
set_option maxRecDepth 100000
set_option maxHeartbeats 4000000
set_option exponentiation.threshold 10000
namespace My
open PySem L2
theorem Tb.conv {C : Addr} {H : Hp} {p : Addr} {cs : List Str} {rs rs' : List (List Str)} (h : Tb C H p cs rs) (e : rs.map (canon cs) = rs'.map (canon cs)) : Tb C H p cs rs' :=
  let ⟨dx, ct, rt, ts, h1, h2, h3, h4⟩ := h; ⟨dx, ct, rt, ts, h1, h2, h3, by rw [← e]; exact h4⟩
/-- rows over the columns cs -/
def RowsOk (cs : List Str) (rs : List (List Str)) : Prop := ∀ x ∈ rs, x.Nodup ∧ ∀ y ∈ x, y ∈ cs
theorem RowsOk.st {cs : List Str} {rs : List (List Str)} (h : RowsOk cs rs) (hc : cs.length ≤ 12) : ∀ x ∈ rs, stray cs x = none ∧ x.length ≤ 1000 := fun x hx => by
  obtain ⟨a, b⟩ := h x hx
  have := nd_len x cs a b
  exact ⟨stray_none_iff.mpr ⟨b, a⟩, by omega⟩
/-- good columns -/
structure Cols (cs : List Str) : Prop where
  g : ∀ z ∈ cs, Good z
  nd : cs.Nodup
  n : cs.length ≤ 12
section
variable {P : Program} {w : World} {K : PySem.W.Frag} {mg : Str → Option Value} {base : Heap} {A : Ad}
def spIs (C : Addr) (K : PySem.W.Frag) : Sp := fun vs H Q _ => ∃ (p c r : Addr) (cs : List Str) (ts : List Addr) (rs : List (List Str)), vs = [.ref p, .ref c, .ref r] ∧ Tb C H p cs rs ∧ SqL K H c (sv cs) ∧ SqL K H r (ts.map V.ref) ∧ Lss .lst H ts rs ∧ Cols cs ∧ rs.length ≤ 48 ∧ (∀ x ∈ rs, stray cs x = none ∧ x.length ≤ 1000) ∧
  ∀ H', Same H H' → Q (.bl true) H'
theorem ok_is (T : Txt P K mg A) : FnOk P w K mg base CX0 6 A.a_law_is A.d_law_is ["found", "columns", "rows"] (spIs A.C_Table K) := by
  have G_Table_eq := ok_eq (P := P) (w := w) (base := base) T
  have G_Table_init := ok_table (P := P) (w := w) (base := base) T
  refine T.F_law_is.ok sc_law_is (fun vs H Q E h => ?_) (fun cdv A' outer s H vs Q E hr h => ?_)
  · obtain ⟨p, c, r, cs, ts, rs, rfl, _⟩ := h
    rfl
  · obtain ⟨p, c, r, cs, ts, rs, rfl, hT, hC, hR, hts, co, hn, hst, k⟩ := h
    refine ⟨_, (pss_cons (ps_if (PW.pt (pw_or (pt_not (pt_val (pe_callB call_isi (by rfl) T.n_isinstance (by decide +kernel) (pa_cons (pv 0) (pa_cons (pe_glob (v := .ref A.C_Table) rfl T.mg_Table rfl) pa_nil))))) (pw_or (pt_not (pt_val (pe_callB call_isi (by rfl) T.n_isinstance (by decide +kernel) (pa_cons (pe_fld (pv 0) rfl) (pa_cons (pe_bltn (v := .ty "tuple") (by rfl) T.n_tuple (by decide +kernel) rfl) pa_nil))))) (pw_or1 (pt_not (pt_val (pe_callB call_isi (by rfl) T.n_isinstance (by decide +kernel) (pa_cons (pe_fld (pv 0) rfl) (pa_cons (pe_bltn (v := .ty "tuple") (by rfl) T.n_tuple (by decide +kernel) rfl) pa_nil))))))))) (pss_one (ps_ret pe_bl)) pss_nil)
      (pss_cons (ps_if (PW.pt (pw_or (pt_cmpR (op_neD hr.units) (pe_callTy call_list_of (by rfl) T.n_list (by decide +kernel) (pa_cons (pe_fld (pv 0) rfl) pa_nil)) (pv 1) (nomark _)) (pw_or1 (pt_cmpR op_ne (pe_callB call_len_seq (by rfl) T.n_len (by decide +kernel) (pa_cons (pe_fld (pv 0) rfl) pa_nil)) (pe_callB call_len_seq (by rfl) T.n_len (by decide +kernel) (pa_cons (pv 2) pa_nil)) (nomark _))))) (pss_one (ps_ret pe_bl)) pss_nil)
      (pss_cons (ps_for PassesOwn.never rfl (pi_range1 (by rfl) T.n_range (pa_cons (pe_callB call_len_seq (by rfl) T.n_len (by decide +kernel) (pa_cons (pv 2) pa_nil)) pa_nil)) (pg_name (i := 3) sc_law_is.nd rfl (Or.inr rfl))
        (pss_one (ps_if (pt_cmpR (op_neD hr.units) (pe_ix ix_tup (pe_fld (pv 0) rfl) (pv 3) (fun _ _ => rfl)) (pe_callTy call_tuple_of (by rfl) T.n_tuple (by decide +kernel) (pa_cons (pe_lc (own := [("name", 4)]) (g := gName 4) (tt := _) rfl sc_law_is.nd (pi_list (pv 1)) (blkOk_by (N := ["found", "columns", "rows", "i", "name"]) (sc := defScope s_law_is) (by decide +kernel)) (fun _ _ _ _ _ => (pg_name (i := 4) sc_law_is.nd rfl (Or.inl rfl))) (fun _ _ _ _ _ => (pts_one (pt_cmpR (show OpR _ _ (rIn K false) from op_in_seq) (pv 4) (pe_ix (show IxR _ (rIxL K) from ix_list) (pv 2) (pv 3) (fun _ _ => rfl)) (by with_unfolding_all rfl)))) (fun _ _ _ _ _ => (pv 4))) pa_nil)) (nomark _)) (pss_one (ps_ret pe_bl)) pss_nil)))
      (pss_one (ps_ret (pe_cmpR op_isBl (pe_cmpR (op_eqOwn G_Table_eq T.b_Table_eq pass0 (hr.mono (by decide)) T.m_Table_eq.at_ T.m_Table_eq.fn) (pv 0) (pe_make T.mk_Table G_Table_init (hr.mono (by decide)) rfl T.mg_Table T.bi .nil pass0 (pa_cons (pv 1) (pa_cons (pv 2) pa_nil))) (nomark _)) pe_bl (nomark _))))))), ?_⟩
    obtain ⟨dx, ct, rt, us, h1, hct, hrt, hus⟩ := id hT
    have gc := good_canon (rs := rs) co.g
    refine ⟨_, rfl, _, _, _, _, true, rfl, .own _, T.ty h1, T.ko_self, true, rfl, iteF ?_⟩
    refine ⟨_, rfl, _, _, _, _, _, rfl, h1, T.cl_Table, T.n_Table_columns, fldsT_columns _ _, _, _, _, _, true, rfl, .ty _, .base (.tup hct), kit_ty (by decide +kernel), true, rfl, iteF ?_⟩
    refine ⟨_, rfl, _, _, _, _, _, rfl, h1, T.cl_Table, T.n_Table_rows, fldsT_rows _ _, _, _, _, _, true, rfl, .ty _, .base (.tup hrt), kit_ty (by decide +kernel), true, rfl, iteF ?_⟩
    refine ⟨_, rfl, _, _, _, _, _, rfl, h1, T.cl_Table, T.n_Table_columns, fldsT_columns _ _, ct, _, rfl, .inr (SqT.of hct), fun l hl => ?_⟩
    have s1 := same_new (o := .lst (sv cs)) hl
    refine ⟨_, rfl, .list (pd cs), .list (pd cs), .lst (xs := sv cs) (SqL.of upd_same) (dp_pd cs), .lst (xs := sv cs) (s1.seq hC) (dp_pd cs), shaped_pd co.g, shaped_pd co.g, ?_⟩
    refine ⟨_, rfl, ifF (by rw [eqv_pd co.g]; rfl) ?_⟩
    generalize upd H l _ = H1 at s1
    have h1' := s1 _ _ h1
    refine ⟨_, rfl, _, _, _, _, _, rfl, h1', T.cl_Table, T.n_Table_rows, fldsT_rows _ _, rt, _, rfl, .inr (SqT.of (s1 _ _ hrt)), _, rfl, r, _, rfl, .inl (s1.seq hR), rfl, _, rfl, itNe (by rw [List.length_map, List.length_map, hus.len, hts.len, List.length_map]) ?_⟩
    have hlen : (ts.map V.ref).length = rs.length := by rw [List.length_map, hts.len]
    refine ⟨_, rfl, r, _, rfl, .inl (s1.seq hR), ?_⟩
    rw [hlen]
    refine ⟨_, rfl, by omega, by omega, for_range (n := rs.length) (fun i σ H2 => Same H H2 ∧ ∃ u3 : Option V, σ = [some (.ref p), some (.ref c), some (.ref r), u3, none]) ⟨s1, none, rfl⟩ ?_ ?_⟩
    · rintro i σ H2 hi ⟨s2, u3, rfl⟩
      have h12 := s2 _ _ h1
      have hC2 := s2.seq hC
      have hR2 := s2.seq hR
      have i0 : (0 : Int) + (i : Int) = (i : Int) := by omega
      obtain ⟨t, y, et, ey, hty⟩ := (hts.same s2).ex hi
      have hi' : i < (rs.map (canon cs)).length := by rw [List.length_map]; exact hi
      obtain ⟨t2, y2, et2, ey2, hty2⟩ := (hus.same s2).ex hi'
      have hy2 : y2 = canon cs y := by rw [List.getElem?_map, ey] at ey2; exact (Option.some.inj ey2).symm
      subst hy2
      have atT : atI (us.map V.ref) (0 + (i : Int)) = some (V.ref t2) := by rw [i0]; exact atR_of et2
      have atR : atI (ts.map V.ref) (0 + (i : Int)) = some (V.ref t) := by rw [i0]; exact atR_of et
      have gy : ∀ z ∈ canon cs y, Good z := fun z hz => co.g z (List.mem_filter.mp hz).1
      refine ⟨_, rfl, _, _, _, _, _, rfl, h12, T.cl_Table, T.n_Table_rows, fldsT_rows _ _, _, rfl, rt, _, _, _, rfl, rfl, SqT.of (s2 _ _ hrt), atT, ?_⟩
      refine ⟨_, rfl, c, rfl, ⟨_, hC2⟩, fun D2 hD2 => lc_it walk_list (PvS H2 D2 fun i => sv (canon (cs.take i) y)) (pv0 hD2 rfl) (fun i H3 _ q => q.1.seq hC2) ?_ ?_⟩
      · rintro j x H30 H3 hj q ⟨rfl, hx⟩
        obtain ⟨z, hz, rfl⟩ := sv_get hx
        refine ⟨rfl, _, rfl, _, rfl, _, rfl, r, _, _, _, rfl, rfl, q.1.seq hR2, atR, t, _, rfl, .inl (SqL.of (q.1 _ _ hty)), rfl, flat_sv _, _, rfl, ?_⟩
        rw [if_neg Bool.false_ne_true, inV_str]
        have hlen : (sv (canon (cs.take j) y)).length ≤ 1000000 := by
          have := List.length_filter_le (fun x => decide (x ∈ y)) (cs.take j)
          rw [List.length_take] at this
          have := co.n
          rw [len_sv]; unfold canon; omega
        by_cases hm : z ∈ y
        · exact ifT (decide_eq_true hm) ⟨_, rfl, q.push hD2 (by
            show sv (canon (cs.take (j + 1)) y) = _
            rw [take_succ hz, canon_T hm]; exact List.map_append) hlen⟩
        · exact ifF (decide_eq_false hm) (q.skip (by
            show sv (canon (cs.take (j + 1)) y) = _
            rw [take_succ hz, canon_F hm]))
      rintro H3 ⟨sm, h3⟩
      have h3 : H3 D2 = some (.lst (sv (canon (cs.take (sv cs).length) y))) := h3
      rw [len_sv, List.take_length] at h3
      refine ⟨D2, _, rfl, .inl ⟨SqL.of h3, fun tt htt => ?_⟩⟩
      have st := same_new (o := .tup (sv (canon cs y))) htt
      refine ⟨.tuple (pd (canon cs y)), .tuple (pd (canon cs y)), .tup (xs := sv (canon cs y)) (SqT.of (st _ _ (sm _ _ hty2))) (dp_pd _), .tup (xs := sv (canon cs y)) (SqT.of upd_same) (dp_pd _), shapedT_pd gy, shapedT_pd gy, ?_⟩
      exact ⟨_, rfl, ifF (by rw [eqvT_pd gy]; rfl) ⟨s2.trans (sm.trans st), _, rfl⟩⟩
    · rintro σ H2 ⟨s2, u3, rfl⟩
      refine ⟨_, rfl, _, rfl, _, rfl, fun t dx2 nx ndx nex => ?_⟩
      have st : Same H2 (upd (upd H2 dx2 (HO.own t)) t (HO.ins A.C_Table dx2 [])) := (same_new ndx).trans (same_new (by rw [upd_ne nex.symm]; exact nx))
      have sv2 := s2.trans st
      refine ⟨t, c, r, dx2, cs, ts, rs, rfl, upd_same, sv2.seq hC, sv2.seq hR, hts.same sv2, co.g, co.nd, co.n, hn, hst, fun H9 sm9 tb => ⟨rfl, ?_⟩⟩
      have s9 : Same H H9 := fun b o' e => by
        have e8 := s2 _ _ e
        exact sm9 b o' (ne_of_none e8 nx) (st _ _ e8)
      obtain ⟨d2, c2, r2, ts2, hh2, _⟩ := id tb
      exact ⟨p, t, dx, d2, _, _, rfl, rfl, s9 _ _ h1, hh2, p, t, cs, rs, rfl, hT.same s9, tb, co.g, true, true, rfl, rfl, k _ s9⟩
def spReads (K : PySem.W.Frag) : Sp := fun vs H Q _ => ∃ (X : Str) (c r : Addr) (cs : List Str) (ts : List Addr) (rs rs' : List (List Str)), vs = [.str X, .ref c, .ref r] ∧ X = wr cs rs' ∧ X.length ≤ 15100000 ∧ rs'.map (canon cs) = rs.map (canon cs) ∧ RowsOk cs rs' ∧ SqL K H c (sv cs) ∧ SqL K H r (ts.map V.ref) ∧ Lss .lst H ts rs ∧ Cols cs ∧ rs.length ≤ 48 ∧ RowsOk cs rs ∧
  ∀ H', Same H H' → Q (.bl true) H'
theorem told_wr {cs : List Str} {rs : List (List Str)} (co : Cols cs) (h : RowsOk cs rs) (hn : rs.length ≤ 48) : lns (wr cs rs) = (("columns" : Str) :: cs) :: rs.map (fun r => ("row" : Str) :: r) ∧ Told (lns (wr cs rs)) none := by
  have e := lns_wr (rs := rs) co.g fun r hr z hz => co.g z ((h r hr).2 z hz)
  refine ⟨e, ?_⟩
  rw [e]
  refine told_no rfl ⟨rfl, co.n, co.g, co.nd⟩ fun i i0 hi => ?_
  rw [List.length_cons, List.length_map] at hi
  obtain ⟨j, rfl⟩ : ∃ j, i = j + 1 := ⟨i - 1, by omega⟩
  have hj : j < rs.length := by omega
  refine bad_row (w := ("row" : Str) :: rs[j]) ?_ (by omega) ⟨rfl, (h _ (List.getElem_mem hj)).2, (h _ (List.getElem_mem hj)).1⟩
  rw [List.getElem?_cons_succ, List.getElem?_map, List.getElem?_eq_getElem hj]; rfl
theorem ok_reads (T : Txt P K mg A) : FnOk P w K mg base CX0 7 A.a_law_reads A.d_law_reads ["text", "columns", "rows"] (spReads K) := by
  have G_law_is := ok_is (P := P) (w := w) (base := base) T
  have G_read_table := ok_read (P := P) (w := w) (base := base) T
  refine T.F_law_reads.ok sc_law_reads (fun vs H Q E h => ?_) (fun cdv A' outer s H vs Q E hr h => ?_)
  · obtain ⟨X, c, r, cs, ts, rs, rs', rfl, _⟩ := h
    rfl
  · obtain ⟨X, c, r, cs, ts, rs, rs', rfl, rfl, hX, hcan, hok', hC, hR, hts, co, hn, hok, k⟩ := h
    refine ⟨_, (pss_one (ps_ret (pe_call G_law_is (hr.mono (by decide)) rfl T.mg_law_is T.F_law_is.kp T.b_law_is .nil pass0 (pa_cons (pe_call G_read_table (hr.mono (by decide)) rfl T.mg_read_table T.F_read_table.kp T.b_read_table .nil pass0 (pa_cons (pv 0) pa_nil)) (pa_cons (pv 1) (pa_cons (pv 2) pa_nil)))))), ?_⟩
    have hn' : rs'.length ≤ 48 := by have := congrArg List.length hcan; rw [List.length_map, List.length_map] at this; omega
    obtain ⟨el, hT⟩ := told_wr co hok' hn'
    refine ⟨_, rfl, _, rfl, hX, hT, fun p H' ws g s' tb => ?_⟩
    have hw : ws = ("columns" : Str) :: cs := by have := g.h0; rw [el] at this; exact (Option.some.inj this).symm
    subst hw
    rw [el] at tb
    have e2 : ((("columns" : Str) :: cs) :: rs'.map (fun r => ("row" : Str) :: r)).tail.map List.tail = rs' := by
      rw [List.tail_cons, List.map_map]
      conv => rhs; rw [← List.map_id rs']
      exact List.map_congr_left fun x _ => rfl
    rw [e2] at tb
    exact ⟨_, rfl, _, rfl, p, c, r, cs, ts, rs, rfl, tb.conv hcan, s'.seq hC, s'.seq hR, hts.same s', co, hn, hok.st co.n, fun H9 s9 => k _ (s'.trans s9)⟩
end
end My
set_option maxRecDepth 100000
set_option maxHeartbeats 4000000
set_option exponentiation.threshold 10000
namespace My
open PySem L2
open C8 (pss_cut)
theorem dpAll_bl {K : PySem.W.Frag} {H : Hp} : ∀ bs : List Bool, DpAll K H (bs.map V.bl) (bs.map PyData.bool)
  | [] => .nil
  | b :: bs => .cons (.bl b) (dpAll_bl bs)
theorem exm_self {K : PySem.W.Frag} {C : Addr} (hb : PySem.W.subIn K (.ref C) (.type "BaseException") = some true) (hi : PySem.W.isClsIn K C = true) (ht : PySem.W.typeIn K (.ref C) = some (.type "type")) (hs : PySem.W.subIn K (.ref C) (.ref C) = some true) :
    PySem.W.exmOne K (.ref C) (.ref C) = some true := by
  unfold PySem.W.exmOne
  rw [hb, if_pos (by rfl)]
  show (if ((PySem.W.clsIn K C).isSome && PySem.W.typeIn K (.ref C) == some (.type "type")) = true then _ else _) = _
  rw [if_pos (by
    rw [ht]
    have : (PySem.W.clsIn K C).isSome = true := hi
    rw [this]; simp)]
  exact hs
section
variable {P : Program} {w : World} {K : PySem.W.Frag} {mg : Str → Option Value} {base : Heap} {A : Ad}
def spAns : Sp := fun vs H Q _ => ∃ X : Str, vs = [.str X] ∧ X.length ≤ 15100000 ∧ ∀ H', Same H H' → Q (.bl true) H'
theorem ok_ans (T : Txt P K mg A) : FnOk P w K mg base CX0 7 A.a_law_answers A.d_law_answers ["text"] spAns := by
  have GX_read_table := ok_readX (P := P) (w := w) (base := base) T
  have G_law_described := ok_descr (P := P) (w := w) (base := base) T
  have G_law_is := ok_is (P := P) (w := w) (base := base) T
  refine T.F_law_answers.ok sc_law_answers (fun vs H Q E h => ?_) (fun cdv A' outer s H vs Q E hr h => ?_)
  · obtain ⟨X, rfl, _⟩ := h
    rfl
  · obtain ⟨X, rfl, hX, k⟩ := h
    refine ⟨_, (pss_cons (ps_set (i := 1) sc_law_answers.nd rfl (Or.inl rfl) (pe_call G_law_described (hr.mono (by decide)) rfl T.mg_law_described T.F_law_described.kp T.b_law_described .nil pass0 (pa_cons (pv 0) pa_nil)))
      (pss_cons (ps_set (i := 2) sc_law_answers.nd rfl (Or.inl rfl) pe_non)
      (pss_cons (ps_set (i := 3) sc_law_answers.nd rfl (Or.inl rfl) pe_non)
      (pss_cons (ps_set (i := 4) sc_law_answers.nd rfl (Or.inl rfl) (pe_lst pa_nil))
      (pss_cons (ps_try_as (i := 5) (Wout := fun _ _ _ _ => False) rfl rfl sc_law_answers.nd rfl rfl ⟨rfl, by decide, .inl T.mg_BadText⟩ takes0 (fun W pn xe tk _ => (pss_one (ps_set (i := 2) sc_law_answers.nd rfl (Or.inl rfl) (pe_callS GX_read_table (hr.mono (by decide)) rfl T.mg_read_table T.F_read_table.kp T.b_read_table (fun σ => passAt tk σ) (pa_cons (pv 0) pa_nil))))) (fun a oe cls d pn hz hf => (pss_cons (ps_set (i := 3) sc_law_answers.nd rfl (Or.inl rfl) (pe_xf T.xf_BadText T.xn_BadText_line hz hf (pv 5)))
      (pss_one (ps_set (i := 4) sc_law_answers.nd rfl (Or.inl rfl) (pe_lst (pa_cons (pe_callB (call_isExD hz hf) (by rfl) T.n_isinstance (by decide +kernel) (pa_cons (pv 5) (pa_cons (pe_glob (v := .ref A.C_RowsError) rfl T.mg_RowsError rfl) pa_nil))) (pa_cons (pe_callB (call_isExD hz hf) (by rfl) T.n_isinstance (by decide +kernel) (pa_cons (pv 5) (pa_cons (pe_bltn (v := .ty "ValueError") (by rfl) T.n_ValueError (by decide +kernel) rfl) pa_nil))) (pa_cons (pe_callB (call_isExD hz hf) (by rfl) T.n_isinstance (by decide +kernel) (pa_cons (pv 5) (pa_cons (pe_glob (v := .ref A.C_Unknown) rfl T.mg_Unknown rfl) pa_nil))) (pa_cons (pe_callB (call_isExD hz hf) (by rfl) T.n_isinstance (by decide +kernel) (pa_cons (pv 5) (pa_cons (pe_glob (v := .ref A.C_Impossible) rfl T.mg_Impossible rfl) pa_nil))) pa_nil))))))))))
      (pss_cons (ps_if (pt_cmpR op_isN (pe_ix ix_list (pv 1) pe_int (fun _ _ => rfl)) pe_non (nomark _)) (pss_one (ps_ret (pe_call G_law_is (hr.mono (by decide)) rfl T.mg_law_is T.F_law_is.kp T.b_law_is .nil pass0 (pa_cons (pv 2) (pa_cons (pe_ix ix_list (pv 1) pe_int (fun _ _ => rfl)) (pa_cons (pe_ix ix_list (pv 1) pe_int (fun _ _ => rfl)) pa_nil)))))) pss_nil)
      (pss_cons (ps_if (PW.pt (pw_or (pt_cmpR op_notN (pv 2) pe_non (nomark _)) (pw_or1 (pt_cmpR (op_neD hr.units) (pv 4) (pe_lst (pa_cons pe_bl (pa_cons pe_bl (pa_cons pe_bl (pa_cons pe_bl pa_nil))))) (nomark _))))) (pss_one (ps_ret pe_bl)) pss_nil)
      (pss_one (ps_ret (pe_and (pe_callB call_isi (by rfl) T.n_isinstance (by decide +kernel) (pa_cons (pv 3) (pa_cons (pe_bltn (v := .ty "int") (by rfl) T.n_int (by decide +kernel) rfl) pa_nil))) (pe_and (pe_not (pe_callB call_isi (by rfl) T.n_isinstance (by decide +kernel) (pa_cons (pv 3) (pa_cons (pe_bltn (v := .ty "bool") (by rfl) T.n_bool (by decide +kernel) rfl) pa_nil)))) (pe_one (pe_cmpR op_eq (pv 3) (pe_ix ix_list (pv 1) pe_int (fun _ _ => rfl)) (nomark _)))))))))))))), ?_⟩
    refine ⟨_, rfl, X, rfl, hX, fun o D c r H1 hT s1 hD hgood => ?_⟩
    refine ⟨by show 0 ≤ sizeLine; decide, fun l hl => ?_⟩
    have sl := same_new (o := .lst []) hl
    have s2 := s1.trans sl
    have hD2 := sl _ _ hD
    generalize upd H1 l _ = H2 at sl s2 hD2
    have at0 : atI [optV o, .ref c, .ref r] 0 = some (optV o) := by
      show atI _ ((0 : Nat) : Int) = _
      exact atI_nat rfl
    have at1 : atI [optV o, .ref c, .ref r] 1 = some (V.ref c) := by
      show atI _ ((1 : Nat) : Int) = _
      exact atI_nat rfl
    have at2 : atI [optV o, .ref c, .ref r] 2 = some (V.ref r) := by
      show atI _ ((2 : Nat) : Int) = _
      exact atI_nat rfl
    refine ⟨_, rfl, X, o, rfl, hX, hT, fun ho p H3 ws g s3 tb => ?_, fun i ho d H6 s6 hd => ?_⟩
    · have hD3 := s3 _ _ hD2
      refine ⟨_, rfl, D, _, _, _, rfl, rfl, SqL.of hD3, at0, rfl, _, rfl, ?_⟩
      subst ho
      obtain ⟨w2, us, g2, hc, hr2, hls⟩ := hgood rfl
      have : w2 = ws := by have h1 := g.h0; have h2 := g2.h0; rw [h1] at h2; exact (Option.some.inj h2).symm
      subst this
      have s13 : Same H1 H3 := sl.trans s3
      refine itY rfl ⟨_, rfl, _, rfl, D, _, _, _, rfl, rfl, SqL.of hD3, at1, _, rfl, D, _, _, _, rfl, rfl, SqL.of hD3, at2, p, c, r, w2.tail, us, _, rfl, tb, s13.seq (SqL.of hc), s13.seq (SqL.of hr2), hls.same s13, ⟨g.c.2.2.1, g.c.2.2.2, g.c.2.1⟩, by rw [List.length_map, List.length_tail]; have := g.n; omega, g.r, fun H9 s9 => k _ (s2.trans (s3.trans s9))⟩
    · subst ho
      refine ⟨true, exm_self T.bp_BadText T.ic_BadText T.tp_BadText T.ss_BadText, fun _ e he => ?_, fun q => nomatch q⟩
      have hne : A.C_BadText ≠ A.C_Unknown ∧ A.C_BadText ≠ A.C_Impossible := by
        refine ⟨fun e => ?_, fun e => ?_⟩
        · have z := T.su_BadText_Unknown
          rw [← e, T.ss_BadText] at z; cases z
        · have z := T.su_BadText_Impossible
          rw [← e, T.ss_BadText] at z; cases z
      have k1 : PySem.W.kitOne K (.ref A.C_BadText) (.ref A.C_RowsError) = some true := kit_own T.ic_RowsError T.tp_RowsError T.su_BadText_RowsError (.inr rfl)
      have k2 : PySem.W.kitOne K (.ref A.C_BadText) (.type "ValueError") = some true := kit_ownT (by decide +kernel) T.sv_BadText
      have k3 : PySem.W.kitOne K (.ref A.C_BadText) (.ref A.C_Unknown) = some false := kit_own T.ic_Unknown T.tp_Unknown T.su_BadText_Unknown (.inl hne.1)
      have k4 : PySem.W.kitOne K (.ref A.C_BadText) (.ref A.C_Impossible) = some false := kit_own T.ic_Impossible T.tp_Impossible T.su_BadText_Impossible (.inl hne.2)
      have s16 := s2.trans s6
      have hD6 := s6 _ _ hD2
      refine ⟨_, rfl, rfl, rfl, d, _, _, rfl, hd, rfl, ?_⟩
      refine ⟨_, rfl, _, _, _, rfl, rfl, hd, T.ec_BadText, _, _, true, rfl, fun _ h => h, k1, ?_⟩
      refine ⟨_, rfl, _, _, _, rfl, rfl, hd, T.ec_BadText, _, _, true, rfl, fun _ h => h, k2, ?_⟩
      refine ⟨_, rfl, _, _, _, rfl, rfl, hd, T.ec_BadText, _, _, false, rfl, fun _ h => h, k3, ?_⟩
      refine ⟨_, rfl, _, _, _, rfl, rfl, hd, T.ec_BadText, _, _, false, rfl, fun _ h => h, k4, ?_⟩
      refine ⟨by show 4 ≤ sizeLine; decide, fun l1 hl1 => ?_⟩
      have sl1 := same_new (o := .lst [V.bl true, .bl true, .bl false, .bl false]) hl1
      refine ⟨_, rfl, D, _, _, _, rfl, rfl, SqL.of (sl1 _ _ hD6), at0, rfl, _, rfl, ?_⟩
      refine itN (fun z => nomatch z) ?_
      refine ⟨_, rfl, rfl, _, rfl, itNe rfl ?_⟩
      refine ⟨_, rfl, by show 4 ≤ sizeLine; decide, fun l2 hl2 => ?_⟩
      have h12 := same_new (o := .lst [V.bl true, .bl true, .bl false, .bl false]) hl2 _ _ (upd_same (H := H6) (a := l1) (o := .lst [V.bl true, .bl true, .bl false, .bl false]))
      refine ⟨.list ([true, true, false, false].map PyData.bool), .list ([true, true, false, false].map PyData.bool), .lst (xs := [true, true, false, false].map V.bl) (SqL.of h12) (dpAll_bl _), .lst (xs := [true, true, false, false].map V.bl) (SqL.of upd_same) (dpAll_bl _), by decide +kernel, by decide +kernel, ?_⟩
      refine ⟨_, rfl, ifF (by decide +kernel) ?_⟩
      have s7 : Same H6 (upd (upd H6 l1 (.lst [V.bl true, .bl true, .bl false, .bl false])) l2 (.lst [V.bl true, .bl true, .bl false, .bl false])) := (same_new hl1).trans (same_new hl2)
      refine ⟨_, rfl, _, _, _, _, true, rfl, .ty _, .base (.int _), kit_ty (by decide +kernel), true, rfl, ?_⟩
      refine iteT ?_
      refine ⟨_, rfl, _, _, _, _, false, rfl, .ty _, .base (.int _), kit_ty (by decide +kernel), false, rfl, true, rfl, iteT ?_⟩
      refine ⟨_, rfl, _, rfl, D, _, _, _, rfl, rfl, SqL.of (s7 _ _ hD6), at0, rfl, ?_⟩
      show Q (.bl (decide (V.int (i : Nat) = V.int (i : Nat)))) _
      rw [decide_eq_true rfl]
      exact k _ (s16.trans s7)
end
end My
set_option maxRecDepth 100000
set_option maxHeartbeats 4000000
set_option exponentiation.threshold 10000
namespace My
open PySem L2
open C8 (pss_cut)
def nums13 : List Int := [3, 4, 5, 2, 8, 6, 9, 10, 1, 7, 0, 12, 11]
theorem nums13_le : ∀ v ∈ nums13, 0 ≤ v ∧ v ≤ 12 := by decide
theorem cut_sv (os : List Str) (lo hi : Option Int) : ∃ ys : List Str, cutV (sv os) lo hi = sv ys ∧ ys.Sublist os := by
  unfold cutV
  rw [sv_drop, sv_take]
  exact ⟨_, rfl, (List.take_sublist _ _).trans (List.drop_sublist _ _)⟩
theorem none_of {H H' : Hp} (s : Same H H') {a : Addr} (h : H' a = none) : H a = none := by
  cases e : H a with
  | none => rfl
  | some o => rw [s _ _ e] at h; cases h
theorem nodup_set {cs : List Str} {n : Nat} {z : Str} (nd : cs.Nodup) (hz : z ∉ cs) : (cs.set n z).Nodup := by
  induction cs generalizing n with
  | nil => exact nd
  | cons a t ih =>
    have nd' := List.nodup_cons.mp nd
    have hz' : z ∉ t := fun h => hz (List.mem_cons_of_mem _ h)
    cases n with
    | zero => exact List.nodup_cons.mpr ⟨hz', nd'.2⟩
    | succ n =>
      refine List.nodup_cons.mpr ⟨fun h => ?_, ih nd'.2 hz'⟩
      rcases List.mem_or_eq_of_mem_set h with h | h
      · exact nd'.1 h
      · exact hz (by rw [← h]; exact List.mem_cons_self)
theorem Cols.set {cs : List Str} (co : Cols cs) {n : Nat} {z : Str} (g : Good z) (hz : z ∉ cs) : Cols (cs.set n z) :=
  ⟨fun x hx => by
    rcases List.mem_or_eq_of_mem_set hx with h | h
    · exact co.g x h
    · rw [h]; exact g, nodup_set co.nd hz, by rw [List.length_set]; exact co.n⟩
section
variable {P : Program} {w : World} {K : PySem.W.Frag} {mg : Str → Option Value} {base : Heap} {A : Ad}
def spMarks (K : PySem.W.Frag) : Sp := fun vs H Q _ => ∃ (c p : Addr) (cs : List Str) (ns : List Int) (i : Int), vs = [.ref c, .ref p, .int i] ∧ SqL K H c (sv cs) ∧ SqL K H p (ns.map V.int) ∧ 0 ≤ i ∧ i + 2 < ns.length ∧ cs.Nodup ∧ cs.length ≤ 12 ∧
  ∀ r ms H', Same H H' → H r = none → H' r = some (.lst (sv ms)) → ms.Nodup → (∀ y ∈ ms, y ∈ cs) → Q (.ref r) H'
theorem ok_marks (T : Txt P K mg A) : FnOk P w K mg base CX0 1 A.a_law_marks A.d_law_marks ["columns", "pool", "at"] (spMarks K) := by
  refine T.F_law_marks.ok sc_law_marks (fun vs H Q E h => ?_) (fun cdv A' outer s H vs Q E hr h => ?_)
  · obtain ⟨c, p, cs, ns, i, rfl, _⟩ := h
    rfl
  · obtain ⟨c, p, cs, ns, i, rfl, hC, hS, i0, i2, nc, hcl, k⟩ := h
    refine ⟨_, (pss_cons (ps_set (i := 3) sc_law_marks.nd rfl (Or.inl rfl) (pe_lst pa_nil))
      (pss_cons (ps_set (i := 4) sc_law_marks.nd rfl (Or.inl rfl) (pe_callTy call_int1 (by rfl) T.n_int (by decide +kernel) (pa_cons (pe_ix ix_list (pv 1) (pv 2) (fun _ _ => rfl)) pa_nil)))
      (pss_cons (ps_for PassesOwn.never rfl (pi_list (pv 0)) (pg_name (i := 5) sc_law_marks.nd rfl (Or.inl rfl))
        (pss_cons (ps_if (pt_cmpR op_eq (pe_op op_mod (pe_callTy call_int1 (by rfl) T.n_int (by decide +kernel) (pa_cons (pv 4) pa_nil)) pe_int) pe_int (nomark _)) (pss_one (ps_expr (pe_bm PySem.F.plainAttrs_list PySem.F.slot_list_append PySem.F.type_list_append mt_append (pv 3) (pa_cons (pv 5) pa_nil)))) pss_nil)
      (pss_one (ps_set (i := 4) sc_law_marks.nd rfl (Or.inl rfl) (pe_op op_fdiv (pv 4) pe_int)))))
      (pss_cons (ps_set (i := 6) sc_law_marks.nd rfl (Or.inl rfl) (pe_op op_add (pe_op op_mul (pe_ix ix_list (pv 1) (pe_op op_add (pv 2) pe_int) (fun _ _ => rfl)) pe_int) (pe_ix ix_list (pv 1) (pe_op op_add (pv 2) pe_int) (fun _ _ => rfl))))
      (pss_cons (ps_set (i := 7) sc_law_marks.nd rfl (Or.inl rfl) (pe_lst pa_nil))
      (pss_cons (ps_for PassesOwn.never rfl (pi_range1 (by rfl) T.n_range (pa_cons (pe_callB call_len_seq (by rfl) T.n_len (by decide +kernel) (pa_cons (pv 3) pa_nil)) pa_nil)) (pg_name (i := 8) sc_law_marks.nd rfl (Or.inl rfl))
        (pss_cons (ps_set (i := 9) sc_law_marks.nd rfl (Or.inl rfl) (pe_op op_mod (pe_callTy call_int1 (by rfl) T.n_int (by decide +kernel) (pa_cons (pv 6) pa_nil)) (pe_callB call_len_seq (by rfl) T.n_len (by decide +kernel) (pa_cons (pv 3) pa_nil))))
      (pss_cons (ps_set (i := 6) sc_law_marks.nd rfl (Or.inl rfl) (pe_op op_fdivX (pv 6) (pe_callB call_len_seq (by rfl) T.n_len (by decide +kernel) (pa_cons (pv 3) pa_nil))))
      (pss_cons (ps_expr (pe_bm PySem.F.plainAttrs_list PySem.F.slot_list_append PySem.F.type_list_append mt_append (pv 7) (pa_cons (pe_ix ix_list (pv 3) (pv 9) (fun _ _ => rfl)) pa_nil)))
      (pss_one (ps_set (i := 3) sc_law_marks.nd rfl (Or.inl rfl) (pe_op op_cat (pe_slice sl_list (pv 3) po_none (po_some (pv 9))) (pe_slice sl_list (pv 3) (po_some (pe_op op_add (pv 9) pe_int)) po_none))))))))
      (pss_one (ps_ret (pv 7))))))))), ?_⟩
    obtain ⟨b, _, eb⟩ := atI_ok (xs := ns) (j := i) (by omega) (by omega)
    obtain ⟨x1, _, e1⟩ := atI_ok (xs := ns) (j := i + 1) (by omega) (by omega)
    obtain ⟨x2, _, e2⟩ := atI_ok (xs := ns) (j := i + 2) (by omega) (by omega)
    refine ⟨by show 0 ≤ sizeLine; decide, fun a ha => ?_⟩
    have sa := same_new (o := .lst []) ha
    refine ⟨_, rfl, _, rfl, _, _, _, _, rfl, rfl, sa.seq hS, eb, .inl ⟨_, rfl, ?_⟩⟩
    refine ⟨_, rfl, c, rfl, ⟨_, sa.seq hC⟩, for_it walk_list (fun j σ H4 => Same H H4 ∧ ∃ (ys : List Str) (lf : Int) (u5 : Option V), σ = [some (.ref c), some (.ref p), some (.int i), some (.ref a), some (.int lf), u5, none, none, none, none] ∧ H4 a = some (.lst (sv ys)) ∧ ys.Sublist (cs.take j))
      ⟨sa, [], b, none, rfl, upd_same, List.nil_sublist _⟩ (fun j σ H4 _ q => q.1.seq hC) ?_ ?_⟩
    · rintro j x σ H40 H4 hi ⟨s4, ys, lf, u5, rfl, h4, hys⟩ ⟨rfl, hx⟩
      obtain ⟨z, hz, rfl⟩ := sv_get hx
      have hyl := hys.length_le
      rw [List.length_take] at hyl
      refine ⟨_, rfl, .inl ⟨_, rfl, _, _, rfl, rfl, by show (0 : Int) < 2; decide, rfl, _, rfl, ite2 (fun hb => ?_) (fun hb => ?_)⟩⟩
      · refine ⟨_, rfl, .inl ⟨rfl, _, SqL.of h4⟩, _, rfl, a, _, _, rfl, rfl, h4, small_int (by rw [len_sv]; omega), ?_⟩
        refine ⟨_, rfl, _, _, rfl, rfl, ⟨by decide, by decide⟩, fun c' o' e => ?_, ys ++ [z], _, _, rfl, ?_, ?_⟩
        · rw [upd_ne (ne_of_none e ha)]; exact s4 _ _ e
        · rw [sv_snoc]; exact upd_same
        · rw [take_succ hz]; exact hys.append (List.Sublist.refl _)
      · refine ⟨_, rfl, _, _, rfl, rfl, ⟨by decide, by decide⟩, s4, ys, _, _, rfl, h4, ?_⟩
        rw [take_succ hz]; exact hys.trans (List.sublist_append_left _ _)
    rintro σ H4 ⟨s4, ys, lf, u5, rfl, h4, hys⟩
    rw [len_sv, List.take_length] at hys
    have hyl := hys.length_le
    refine ⟨_, rfl, _, rfl, _, _, rfl, rfl, _, _, _, _, rfl, rfl, s4.seq hS, e1, _, _, rfl, rfl, .inr ⟨by decide, by decide⟩, _, rfl, _, rfl, _, _, rfl, rfl, _, _, _, _, rfl, rfl, s4.seq hS, e2, _, _, rfl, rfl, ?_⟩
    dsimp only
    generalize x1 * 27720 + x2 = d0
    refine ⟨by show 0 ≤ sizeLine; decide, fun r hr => ?_⟩
    have nar : a ≠ r := ne_of_none h4 hr
    have hr0 := none_of s4 hr
    have sr := s4.trans (same_new (o := .lst []) hr)
    refine ⟨_, rfl, a, _, rfl, .inl (SqL.of (same_new hr _ _ h4)), ?_⟩
    rw [len_sv]
    refine ⟨_, rfl, by omega, by omega, for_range (n := ys.length) (fun j σ H3 => ∃ (d : Int) (q : Addr) (ls ms : List Str) (u4 u8 u9 : Option V), σ = [some (.ref c), some (.ref p), some (.int i), some (.ref q), u4, u5, some (.int d), some (.ref r), u8, u9] ∧
      Same H4 H3 ∧ H3 r = some (.lst (sv ms)) ∧ H3 q = some (.lst (sv ls)) ∧ (ms ++ ls).Perm ys ∧ ms.length = j ∧ q ≠ r) ⟨d0, a, ys, [], _, none, none, rfl, same_new hr, upd_same, by rw [upd_ne nar]; exact h4, List.Perm.refl _, rfl, nar⟩ ?_ ?_⟩
    · rintro j σ H3 hj ⟨d, q, ls, ms, u4, u8, u9, rfl, sm, h3, hq, hp, hm, nq⟩
      have hlen := hp.length_eq
      rw [List.length_append] at hlen
      have hpos : 0 < ls.length := by omega
      have p0 := Int.emod_nonneg d (show ((ls.length : Nat) : Int) ≠ 0 by omega)
      have p1 := Int.emod_lt_of_pos d (show (0 : Int) < ((ls.length : Nat) : Int) by omega)
      refine ⟨_, rfl, .inl ⟨_, rfl, _, rfl, q, _, rfl, .inl (SqL.of hq), _, _, rfl, rfl, by rw [len_sv]; omega, ?_⟩⟩
      dsimp only
      rw [len_sv]
      generalize hpk : d % ((ls.length : Nat) : Int) = pick at p0 p1 ⊢
      obtain ⟨n, rfl⟩ := Int.eq_ofNat_of_zero_le p0
      have hn : n < ls.length := by omega
      refine ⟨_, rfl, _, rfl, q, _, rfl, .inl (SqL.of hq), _, _, rfl, rfl, ⟨by rw [len_sv]; omega, ?_⟩, ?_⟩
      · rw [len_sv, Int.natAbs_natCast]
        have : ls.length ≤ 50 := by omega
        exact Nat.lt_of_le_of_lt this (by decide)
      have at1 : atI (sv ls) ((n : Nat) : Int) = some (V.str ls[n]) := atI_nat (by rw [List.getElem?_map, List.getElem?_eq_getElem hn]; rfl)
      refine ⟨_, rfl, .inl ⟨rfl, _, SqL.of h3⟩, _, rfl, _, rfl, _, _, _, _, rfl, rfl, SqL.of hq, at1, r, _, _, rfl, rfl, h3, small_int (by rw [len_sv]; omega), ?_⟩
      generalize hX : upd H3 r _ = H5
      have sm4 : Same H4 H5 := fun b o e => by rw [← hX, upd_ne (ne_of_none e hr)]; exact sm _ _ e
      have hr4 : H5 r = some (.lst (sv (ms ++ [ls[n]]))) := by rw [← hX, sv_snoc]; exact upd_same
      have hq4 : H5 q = some (.lst (sv ls)) := by rw [← hX, upd_ne nq]; exact hq
      clear hX
      refine ⟨_, rfl, _, rfl, _, rfl, q, _, rfl, SqL.of hq4, fun a ha => ⟨_, rfl, _, rfl, _, _, rfl, rfl, _, rfl, q, _, rfl, SqL.of (same_new ha _ _ hq4), fun b hb => ?_⟩⟩
      have nab : a ≠ b := ne_of_none upd_same hb
      rw [cut_take (by rw [len_sv]; omega), sv_take] at hb ⊢
      rw [show ((n : Int) + 1) = ((n + 1 : Nat) : Int) by omega, cut_drop (by rw [len_sv]; omega), sv_drop]
      refine ⟨a, b, _, _, rfl, rfl, by rw [upd_ne nab]; exact upd_same, upd_same, ?_, fun c' hc => ?_⟩
      · rw [len_sv, len_sv, List.length_take, List.length_drop]
        have : min n ls.length + (ls.length - (n + 1)) ≤ 50 := by omega
        exact Nat.le_trans this (by decide)
      · have s5 := (same_new (o := .lst (sv (ls.take n))) ha).trans ((same_new (o := .lst (sv (ls.drop (n + 1)))) hb).trans (same_new (o := .lst (sv (ls.take n) ++ sv (ls.drop (n + 1)))) hc))
        refine ⟨_, c', ls.take n ++ ls.drop (n + 1), ms ++ [ls[n]], _, _, _, rfl, sm4.trans s5, s5 _ _ hr4, ?_, ?_, by rw [List.length_append, hm]; rfl, fun z => ?_⟩
        · rw [upd_same]; exact congrArg (fun z => some (HO.lst z)) List.map_append.symm
        · refine List.Perm.trans ?_ hp
          rw [List.append_assoc]
          refine List.Perm.append_left ms ?_
          have e : ls = ls.take n ++ ls[n] :: ls.drop (n + 1) := by
            conv => lhs; rw [← List.take_append_drop n ls]
            rw [List.drop_eq_getElem_cons hn]
          conv => rhs; rw [e]
          show (ls[n] :: (ls.take n ++ ls.drop (n + 1))).Perm _
          exact List.perm_middle.symm
        · subst z
          rw [((same_new (o := .lst (sv (ls.take n))) ha).trans (same_new (o := .lst (sv (ls.drop (n + 1)))) hb)) _ _ hr4] at hc
          cases hc
    · rintro σ H3 ⟨d, q, ls, ms, u4, u8, u9, rfl, sm, h3, hq, hp, hm, nq⟩
      have hl0 : ls = [] := by
        have := hp.length_eq
        rw [List.length_append] at this
        exact List.eq_nil_of_length_eq_zero (by omega)
      subst hl0
      rw [List.append_nil] at hp
      exact ⟨_, rfl, k r ms H3 (s4.trans sm) hr0 h3 (hp.nodup_iff.mpr (hys.nodup nc)) fun y hy => hys.subset (hp.mem_iff.mp hy)⟩
end
end My
set_option maxRecDepth 100000
set_option maxHeartbeats 4000000
set_option exponentiation.threshold 10000
namespace My
open PySem L2
open C8 (pss_cut)
theorem noR {cs : List Str} : RowsOk cs [] := fun x hx => nomatch hx
theorem RowsOk.app {cs : List Str} {rs : List (List Str)} {y : List Str} (h : RowsOk cs rs) (nd : y.Nodup) (hs : ∀ z ∈ y, z ∈ cs) : RowsOk cs (rs ++ [y]) := fun x hx => by
  rcases List.mem_append.mp hx with hx | hx
  · exact h x hx
  · rw [List.mem_singleton.mp hx]; exact ⟨nd, hs⟩
theorem good_rc : ∀ j : Fin 2, ∃ z : Str, atI [V.str ("row" : Str), V.str "columns"] ((j.val : Nat) : Int) = some (V.str z) ∧ Good z
  | ⟨0, _⟩ => ⟨_, rfl, good_row⟩
  | ⟨1, _⟩ => ⟨_, rfl, good_columns⟩
section
variable {P : Program} {w : World} {K : PySem.W.Frag} {mg : Str → Option Value} {base : Heap} {A : Ad}
def spDrawn (K : PySem.W.Frag) : Sp := fun vs H Q _ => ∃ (a : Addr) (ns : List Int), vs = [.ref a] ∧ SqL K H a (ns.map V.int) ∧
  ∀ m c r cs ts rs H', Same H H' → H' m = some (.lst [.ref c, .ref r]) → H' c = some (.lst (sv cs)) → H' r = some (.lst (ts.map V.ref)) → Lss .lst H' ts rs → Cols cs → RowsOk cs rs → rs.length ≤ 48 → Q (.ref m) H'
theorem ok_drawn (T : Txt P K mg A) : FnOk P w K mg base CX0 3 A.a_law_drawn A.d_law_drawn ["script"] (spDrawn K) := by
  have G_law_pool := ok_pool (P := P) (w := w) (base := base) T
  have G_law_word := ok_word (P := P) (w := w) (base := base) T
  have G_law_new := ok_new (P := P) (w := w) (base := base) T
  have G_law_marks := ok_marks (P := P) (w := w) (base := base) T
  refine T.F_law_drawn.ok sc_law_drawn (fun vs H Q E h => ?_) (fun cdv A' outer s H vs Q E hr h => ?_)
  · obtain ⟨a, ns, rfl, _⟩ := h
    rfl
  · obtain ⟨sa, ns, rfl, hS, k⟩ := h
    refine ⟨_, (pss_cons (ps_set (i := 1) sc_law_drawn.nd rfl (Or.inl rfl) (pe_call G_law_pool (hr.mono (by decide)) rfl T.mg_law_pool T.F_law_pool.kp T.b_law_pool .nil pass0 (pa_cons (pv 0) (pa_cons pe_int (pa_cons pe_int pa_nil)))))
      (pss_cons (ps_set (i := 2) sc_law_drawn.nd rfl (Or.inr rfl) (pe_call G_law_pool (hr.mono (by decide)) rfl T.mg_law_pool T.F_law_pool.kp T.b_law_pool .nil pass0 (pa_cons (pv 0) (pa_cons pe_int (pa_cons pe_int pa_nil)))))
      (pss_cons (ps_set (i := 3) sc_law_drawn.nd rfl (Or.inl rfl) (pe_ix ix_list (pe_lst (pa_cons pe_int (pa_cons pe_int (pa_cons pe_int (pa_cons pe_int (pa_cons pe_int (pa_cons pe_int (pa_cons pe_int (pa_cons pe_int (pa_cons pe_int (pa_cons pe_int (pa_cons pe_int (pa_cons pe_int (pa_cons pe_int pa_nil)))))))))))))) (pe_op op_mod (pe_callTy call_int1 (by rfl) T.n_int (by decide +kernel) (pa_cons (pe_ix ix_list (pv 1) pe_int (fun _ _ => rfl)) pa_nil)) pe_int) (fun _ _ => rfl)))
      (pss_cons (ps_set (i := 4) sc_law_drawn.nd rfl (Or.inr rfl) (pe_lst pa_nil))
      (pss_cons (ps_for PassesOwn.never rfl (pi_range1 (by rfl) T.n_range (pa_cons (pv 3) pa_nil)) (pg_name (i := 5) sc_law_drawn.nd rfl (Or.inl rfl))
        (pss_one (ps_expr (pe_bm PySem.F.plainAttrs_list PySem.F.slot_list_append PySem.F.type_list_append mt_append (pv 4) (pa_cons (pe_call G_law_new (hr.mono (by decide)) rfl T.mg_law_new T.F_law_new.kp T.b_law_new .nil pass0 (pa_cons (pv 4) (pa_cons (pe_call G_law_word (hr.mono (by decide)) rfl T.mg_law_word T.F_law_word.kp T.b_law_word .nil pass0 (pa_cons (pv 1) (pa_cons (pe_op op_add pe_int (pe_op op_mul pe_int (pv 5))) pa_nil))) pa_nil))) pa_nil)))))
      (pss_cons (ps_set (i := 6) sc_law_drawn.nd rfl (Or.inl rfl) (pe_ix ix_list (pe_lst (pa_cons pe_str (pa_cons pe_str pa_nil))) (pe_op op_mod (pe_callTy call_int1 (by rfl) T.n_int (by decide +kernel) (pa_cons (pe_ix ix_list (pv 1) pe_int (fun _ _ => rfl)) pa_nil)) pe_int) (fun _ _ => rfl)))
      (pss_cut (ps_if (PW.pt (pw_and (pt_cmpR op_gt (pv 3) pe_int (nomark _)) (pw_and (pt_cmpR op_eq (pe_op op_mod (pe_callTy call_int1 (by rfl) T.n_int (by decide +kernel) (pa_cons (pe_ix ix_list (pv 1) pe_int (fun _ _ => rfl)) pa_nil)) pe_int) pe_int (nomark _)) (pw_and1 (pt_cmpR op_notIn_seq (pv 6) (pv 4) (by with_unfolding_all rfl)))))) (pss_one (ps_asg (pv 6) (pg_sub (pv 4) (pe_op op_mod (pe_callTy call_int1 (by rfl) T.n_int (by decide +kernel) (pa_cons (pe_ix ix_list (pv 1) pe_int (fun _ _ => rfl)) pa_nil)) (pv 3)) set_list))) pss_nil)
      (pss_cons (ps_setLc (i := 7) (own := [("i", 9)]) (g := gName 9) (tt := tYes) rfl sc_law_drawn.nd rfl rfl (sw_true rfl rfl rfl (by decide +kernel)) (pi_range1 (by rfl) T.n_range (pa_cons (pe_op op_mod (pe_callTy call_int1 (by rfl) T.n_int (by decide +kernel) (pa_cons (pe_ix ix_list (pv 1) pe_int (fun _ _ => rfl)) pa_nil)) pe_int) pa_nil)) (blkOk_by (N := ["script", "pool", "lows", "size", "columns", "k", "word", "rows", "base", "i"]) (sc := defScope s_law_drawn) (by decide +kernel)) (fun _ _ _ _ _ => (pg_name (i := 9) sc_law_drawn.nd rfl (Or.inl rfl))) (fun _ _ _ _ _ => pts_nil) (fun _ _ _ _ _ => (pe_call G_law_marks (hr.mono (by decide)) rfl T.mg_law_marks T.F_law_marks.kp T.b_law_marks .nil pass0 (pa_cons (pv 4) (pa_cons (pv 2) (pa_cons (pe_op op_mul pe_int (pv 9)) pa_nil))))))
      (pss_cut (ps_if (pt_cmpR op_eq (pe_op op_mod (pe_callTy call_int1 (by rfl) T.n_int (by decide +kernel) (pa_cons (pe_ix ix_list (pv 1) pe_int (fun _ _ => rfl)) pa_nil)) pe_int) pe_int (nomark _)) (pss_cons (ps_set (i := 8) sc_law_drawn.nd rfl (Or.inr rfl) (pe_op op_cat (pv 7) (pe_lst (pa_cons (pe_slice sl_list (pv 4) po_none (po_some pe_int)) pa_nil))))
      (pss_one (ps_setLc (i := 7) (own := [("k", 5)]) (g := gName 5) (tt := tYes) rfl sc_law_drawn.nd rfl rfl (sw_true rfl rfl rfl (by decide +kernel)) (pi_range1 (by rfl) T.n_range (pa_cons (pe_op op_add pe_int (pe_op op_mod (pe_callTy call_int1 (by rfl) T.n_int (by decide +kernel) (pa_cons (pe_ix ix_list (pv 1) pe_int (fun _ _ => rfl)) pa_nil)) pe_int)) pa_nil)) (blkOk_by (N := ["script", "pool", "lows", "size", "columns", "k", "word", "rows", "base", "i"]) (sc := defScope s_law_drawn) (by decide +kernel)) (fun _ _ _ _ _ => (pg_name (i := 5) sc_law_drawn.nd rfl (Or.inl rfl))) (fun _ _ _ _ _ => pts_nil) (fun _ _ _ _ _ => (pe_callTy (show CallR _ _ (rListOf K) from call_list_of) (by rfl) T.n_list (by decide +kernel) (pa_cons (pe_ix (show IxR _ (rIxL K) from ix_list) (pv 8) (pe_op op_mod (pe_callTy call_int1 (by rfl) T.n_int (by decide +kernel) (pa_cons (pv 5) pa_nil)) (pe_callB (show CallR _ _ (rLen2 K) from call_len_seq) (by rfl) T.n_len (by decide +kernel) (pa_cons (pv 8) pa_nil))) (fun _ _ => rfl)) pa_nil)))))) pss_nil)
      (pss_one (ps_ret (pe_lst (pa_cons (pv 4) (pa_cons (pv 7) pa_nil)))))))))))))), ?_⟩
    refine ⟨_, rfl, sa, ns, 0, 60, rfl, hS, by decide, by decide, by decide, fun p ps H1 s1 h1 l1 P1 => ?_⟩
    refine ⟨_, rfl, sa, ns, 1, 60, rfl, s1.seq hS, by decide, by decide, by decide, fun q qs H2 s2 h2 l2 P2 => ?_⟩
    have h60 : ps.length = 60 := by omega
    have q60 : qs.length = 60 := by omega
    have hP2 := s2.seq (K := K) (SqL.of h1)
    have hQ2 : SqL K H2 q (qs.map V.int) := SqL.of h2
    have s12 := s1.trans s2
    clear s1 s2 h1 h2
    obtain ⟨x0, _, e0⟩ := atI_ok (xs := ps) (j := 0) (by decide) (by omega)
    obtain ⟨x37, _, e37⟩ := atI_ok (xs := ps) (j := 37) (by decide) (by omega)
    obtain ⟨x38, _, e38⟩ := atI_ok (xs := ps) (j := 38) (by decide) (by omega)
    obtain ⟨x39, _, e39⟩ := atI_ok (xs := ps) (j := 39) (by decide) (by omega)
    obtain ⟨x40, _, e40⟩ := atI_ok (xs := ps) (j := 40) (by decide) (by omega)
    obtain ⟨x41, _, e41⟩ := atI_ok (xs := ps) (j := 41) (by decide) (by omega)
    obtain ⟨x42, _, e42⟩ := atI_ok (xs := ps) (j := 42) (by decide) (by omega)
    refine ⟨by show 13 ≤ sizeLine; decide, fun l hl13 => ?_⟩
    have sl := same_new (o := .lst (nums13.map V.int)) hl13
    have m0 := Int.emod_nonneg x0 (show (13 : Int) ≠ 0 by decide)
    have m1 := Int.emod_lt_of_pos x0 (show (0 : Int) < 13 by decide)
    obtain ⟨v, hv, ev⟩ := atI_ok (xs := nums13) m0 (by show x0 % 13 < 13; omega)
    have hv := nums13_le v hv
    refine ⟨_, rfl, _, _, _, _, rfl, rfl, sl.seq hP2, e0, .inl ⟨_, rfl, _, _, rfl, rfl, by show (0 : Int) < 13; decide, _, _, _, _, rfl, rfl, SqL.of upd_same, ev, ?_⟩⟩
    refine ⟨by show 0 ≤ sizeLine; decide, fun c hc => ?_⟩
    have s3 := sl.trans (same_new (o := .lst []) hc)
    have hc0 : H2 c = none := by
      cases e : H2 c with
      | none => rfl
      | some o => have := sl _ _ e; exact this.symm.trans hc
    refine ⟨_, rfl, v, rfl, by omega, by omega, for_range (n := v.toNat) (fun j σ H4 => ∃ (cs : List Str) (u5 : Option V), σ = [some (.ref sa), some (.ref p), some (.ref q), some (.int v), some (.ref c), u5, none, none, none, none] ∧ Same H2 H4 ∧ H4 c = some (.lst (sv cs)) ∧ (∀ z ∈ cs, Good z) ∧ cs.Nodup ∧ cs.length = j)
      ⟨[], none, rfl, s3, upd_same, (fun z hz => nomatch hz), List.nodup_nil, rfl⟩ ?_ ?_⟩
    · rintro j σ H4 hj ⟨cs, u5, rfl, s4, h4, hg, nd, hlen⟩
      refine ⟨_, rfl, .inl ⟨rfl, _, SqL.of h4⟩, _, rfl, _, rfl, _, rfl, _, _, rfl, rfl, .inl ⟨by decide, by decide⟩, _, _, rfl, rfl, p, ps, _, rfl, s4.seq hP2, P1, by omega, by omega, fun z gz => ?_⟩
      refine ⟨c, cs, z, rfl, SqL.of h4, by omega, gz, fun z' g' n' => ⟨c, _, _, rfl, rfl, h4, small_int (by rw [len_sv]; omega), cs ++ [z'], _, rfl, ?_, ?_, ?_, ?_, ?_⟩⟩
      · intro b o e
        rw [upd_ne (ne_of_none e hc0)]
        exact s4 _ _ e
      · rw [sv_snoc]; exact upd_same
      · intro y hy
        rcases List.mem_append.mp hy with hy | hy
        · exact hg y hy
        · rw [List.mem_singleton.mp hy]; exact g'
      · rw [List.nodup_append]
        exact ⟨nd, by simp, fun a ha b hb e => n' (by rw [← List.mem_singleton.mp hb, ← e]; exact ha)⟩
      · rw [List.length_append, hlen]; rfl
    rintro σ H4 ⟨cs, u5, rfl, s4, h4, hg, nd, hlen⟩
    have co : Cols cs := ⟨hg, nd, by omega⟩
    -- the word row or columns
    refine ⟨by show 2 ≤ sizeLine; decide, fun lw hlw => ?_⟩
    have slw := same_new (o := .lst [V.str ("row" : Str), V.str "columns"]) hlw
    have w0 := Int.emod_nonneg x38 (show (2 : Int) ≠ 0 by decide)
    have w1 := Int.emod_lt_of_pos x38 (show (0 : Int) < 2 by decide)
    obtain ⟨wd, ew, gw⟩ := good_rc ⟨(x38 % 2).toNat, by omega⟩
    have ew : atI [V.str ("row" : Str), V.str "columns"] (((x38 % 2).toNat : Nat) : Int) = some (V.str wd) := ew
    rw [show (((x38 % 2).toNat : Nat) : Int) = x38 % 2 by omega] at ew
    have s5 := s4.trans slw
    have h5 := slw _ _ h4
    refine ⟨_, rfl, _, _, _, _, rfl, rfl, s5.seq hP2, e38, .inl ⟨_, rfl, _, _, rfl, rfl, by show (0 : Int) < 2; decide, _, _, _, _, rfl, rfl, SqL.of upd_same, ew, ?_⟩⟩
    generalize upd H4 lw _ = H5 at s5 h5 ⊢
    clear slw hlw
    refine ⟨fun σ H6 => ∃ cs : List Str, σ = [some (.ref sa), some (.ref p), some (.ref q), some (.int v), some (.ref c), u5, some (.str wd), none, none, none] ∧ Same H2 H6 ∧ H6 c = some (.lst (sv cs)) ∧ Cols cs, ?_, ?_⟩
    · refine ⟨_, rfl, _, _, rfl, rfl, _, rfl, ?_⟩
      by_cases hv0 : v > 0
      · refine itY hv0 ?_
        refine ⟨_, rfl, _, _, _, _, rfl, rfl, s5.seq hP2, e37, .inl ⟨_, rfl, _, _, rfl, rfl, by show (0 : Int) < 3; decide, rfl, _, rfl, ite2 (fun hb => ?_) (fun hb => iteF ⟨cs, rfl, s5, h5, co⟩)⟩⟩
        refine ⟨_, rfl, _, rfl, c, _, rfl, .inl (SqL.of h5), rfl, flat_sv _, _, rfl, ?_⟩
        rw [if_pos (rfl : true = true), inV_str]
        by_cases hin : wd ∈ cs
        · exact ifF (by rw [decide_eq_true hin]; rfl) ⟨cs, rfl, s5, h5, co⟩
        · refine ifT (by rw [decide_eq_false hin]; rfl) ?_
          have n0 := Int.emod_nonneg x39 (show v ≠ 0 by omega)
          have n1 := Int.emod_lt_of_pos x39 (show 0 < v by omega)
          obtain ⟨n, en⟩ := Int.eq_ofNat_of_zero_le n0
          refine ⟨_, rfl, _, rfl, _, rfl, _, _, _, _, rfl, rfl, s5.seq hP2, e39, .inl ⟨_, rfl, _, rfl, _, _, rfl, rfl, hv0, ?_⟩⟩
          refine ⟨c, sv cs, _, n, rfl, rfl, h5, by rw [en, len_sv]; exact ixN_of (by omega), cs.set n wd, rfl, fun b o e => ?_, ?_, co.set gw hin⟩
          · rw [upd_ne (ne_of_none e hc0)]; exact s5 _ _ e
          · rw [upd_same]; exact congrArg (fun z => some (HO.lst z)) List.map_set.symm
      · exact itN hv0 (iteF ⟨cs, rfl, s5, h5, co⟩)
    rintro σ H6 ⟨cs, rfl, s6, h6, co⟩
    have hP6 := s6.seq hP2
    have hQ6 := s6.seq hQ2
    have r0 := Int.emod_nonneg x40 (show (7 : Int) ≠ 0 by decide)
    have r1 := Int.emod_lt_of_pos x40 (show (0 : Int) < 7 by decide)
    refine ⟨_, rfl, _, _, _, _, rfl, rfl, hP6, e40, .inl ⟨_, rfl, _, _, rfl, rfl, by show (0 : Int) < 7; decide, _, rfl, by omega, by omega, fun D hD => lc_range (n := (x40 % 7).toNat) (fun i H8 => ∃ rs, LcL H6 D rs H8 ∧ RowsOk cs rs ∧ rs.length = i) ⟨[], lcl0 hD, noR, rfl⟩ ?_ ?_⟩⟩
    · rintro j H8 hj ⟨rs, q8, ok8, len8⟩
      have s8 := q8.1
      refine ⟨rfl, _, rfl, _, rfl, _, rfl, _, _, rfl, rfl, .inl ⟨by decide, by decide⟩, c, q, cs, qs, _, rfl, SqL.of (s8 _ _ h6), s8.seq hQ6, by omega, by omega, co.nd, co.n, fun r ms H9 s9 hr0 hr9 nd9 sub9 => ?_⟩
      obtain ⟨acc, y1, y2, y3⟩ := q8.push hD s9 hr9 (by obtain ⟨_, us, hd, _⟩ := q8; exact (ne_of_none hd hr0).symm) (by omega)
      exact ⟨acc, y1, y2, rs ++ [ms], y3, ok8.app nd9 sub9, by rw [List.length_append, len8]; rfl⟩
    rintro H8 ⟨rs, ⟨s8, ts, hd8, hts8, hne8⟩, ok8, len8⟩
    have len8 : rs.length ≤ 6 := by omega
    have hP8 := s8.seq hP6
    have h8 := s8 _ _ h6
    have s28 := s6.trans s8
    refine ⟨fun σ H9 => ∃ (r : Addr) (ts : List Addr) (rs : List (List Str)) (u8 : Option V), σ = [some (.ref sa), some (.ref p), some (.ref q), some (.int v), some (.ref c), u5, some (.str wd), some (.ref r), u8, none] ∧ Same H8 H9 ∧ H9 r = some (.lst (ts.map V.ref)) ∧ Lss .lst H9 ts rs ∧ RowsOk cs rs ∧ rs.length ≤ 48, ?_, ?_⟩
    · refine ⟨_, rfl, _, _, _, _, rfl, rfl, hP8, e41, .inl ⟨_, rfl, _, _, rfl, rfl, by show (0 : Int) < 10; decide, rfl, _, rfl, ite2 (fun hb => ?_) (fun hb => ?_)⟩⟩
      · obtain ⟨ys, eys, hys⟩ := cut_sv cs none (some 2)
        refine ⟨_, rfl, _, rfl, _, rfl, c, _, rfl, SqL.of h8, fun t ht => ?_⟩
        rw [eys]
        have st := same_new (o := .lst (sv ys)) ht
        refine ⟨by show 1 ≤ sizeLine; decide, fun l1 hl1 => ?_⟩
        have st1 := st.trans (same_new (o := .lst [V.ref t]) hl1)
        refine ⟨D, l1, _, _, rfl, rfl, st1 _ _ hd8, upd_same, ?_, fun b hb' => ?_⟩
        · rw [List.length_map, hts8.len]
          exact Nat.le_trans (Nat.add_le_add_right len8 1) (by decide)
        have st2 := st1.trans (same_new (o := .lst (ts.map V.ref ++ [V.ref t])) hb')
        have hts2 := (hts8.same st2).app (t := t) (r := ys) ((same_new (o := .lst (ts.map V.ref ++ [V.ref t])) hb') _ _ (same_new (o := .lst [V.ref t]) hl1 _ _ upd_same))
        have hok2 : RowsOk cs (rs ++ [ys]) := ok8.app (hys.nodup co.nd) fun y hy => hys.subset hy
        generalize hX : upd (upd (upd H8 t _) l1 _) b _ = H7 at st2 hts2
        have hB : H7 b = some (.lst ((ts ++ [t]).map V.ref)) := by rw [← hX, List.map_append]; exact upd_same
        clear hX st st1 hl1 hb' ht
        have t0 := Int.emod_nonneg x42 (show (3 : Int) ≠ 0 by decide)
        have t1 := Int.emod_lt_of_pos x42 (show (0 : Int) < 3 by decide)
        refine ⟨_, rfl, _, _, _, _, rfl, rfl, st2.seq hP8, e42, .inl ⟨_, rfl, _, _, rfl, rfl, by show (0 : Int) < 3; decide, _, _, rfl, rfl, ?_⟩⟩
        dsimp only
        generalize hsz : (46 : Int) + x42 % 3 = z
        refine ⟨z, rfl, by omega, by omega, fun D2 hD2 => lc_range (n := z.toNat) (fun i H10 => ∃ ss, LcL H7 D2 ss H10 ∧ RowsOk cs ss ∧ ss.length = i) ⟨[], lcl0 hD2, noR, rfl⟩ ?_ ?_⟩
        · rintro j H10 hj ⟨ss, q10, ok10, len10⟩
          have hB8 : SqL K H10 b ((ts ++ [t]).map V.ref) := SqL.of (q10.1 _ _ hB)
          have hbl : ((ts ++ [t]).map V.ref).length = rs.length + 1 := by rw [List.length_map, List.length_append, hts8.len]; rfl
          have hp0 : (0 : Int) < (((ts ++ [t]).map V.ref).length : Int) := by omega
          have i0 := Int.emod_nonneg (0 + (j : Int)) (show ((((ts ++ [t]).map V.ref).length : Nat) : Int) ≠ 0 by omega)
          have i1 := Int.emod_lt_of_pos (0 + (j : Int)) hp0
          obtain ⟨n, en⟩ := Int.eq_ofNat_of_zero_le i0
          have hn : n < (ts ++ [t]).length := by rw [List.length_map] at i1 en; omega
          have hat : atI ((ts ++ [t]).map V.ref) ((0 + (j : Int)) % ((((ts ++ [t]).map V.ref).length : Nat) : Int)) = some (V.ref (ts ++ [t])[n]) := by
            rw [en]; exact atI_nat (by rw [List.getElem?_map, List.getElem?_eq_getElem hn]; rfl)
          obtain ⟨y, hy, ho8⟩ := (hts2.same q10.1).get (List.getElem?_eq_getElem hn)
          refine ⟨rfl, _, rfl, _, rfl, .inl ⟨_, rfl, _, rfl, b, _, rfl, .inl hB8, _, _, rfl, rfl, hp0, b, _, _, _, rfl, rfl, hB8, hat, _, _, rfl, .inl (SqL.of ho8), fun a ha => ?_⟩⟩
          obtain ⟨acc, y1, y2, y3⟩ := q10.new (y := y) hD2 ha (by omega)
          have oy := hok2 y (List.mem_of_getElem? hy)
          exact ⟨acc, y1, y2, ss ++ [y], y3, ok10.app oy.1 oy.2, by rw [List.length_append, len10]; rfl⟩
        · rintro H10 ⟨ss, ⟨s10, us, hd10, hls10, hne10⟩, ok10, len10⟩
          exact ⟨D2, us, ss, _, rfl, st2.trans s10, hd10, hls10, ok10, by omega⟩
      · exact ⟨D, ts, rs, _, rfl, Same.refl _, hd8, hts8, ok8, by omega⟩
    rintro σ H9 ⟨r, ts', rs', u8, rfl, s9, h9, hts9, ok9, len9⟩
    refine ⟨_, rfl, _, rfl, by show 2 ≤ sizeLine; decide, fun m hm => ?_⟩
    have sm := same_new (o := .lst [V.ref c, V.ref r]) hm
    exact k m c r cs ts' rs' _ (s12.trans (s28.trans (s9.trans sm))) upd_same (sm _ _ (s9 _ _ h8)) (sm _ _ h9) (hts9.same sm) co ok9 len9
end
end My
set_option maxRecDepth 100000
set_option maxHeartbeats 4000000
set_option exponentiation.threshold 10000
namespace My
open PySem L2
open C8 (pss_cut)
abbrev nsc_law : Scope := { kind := ScopeKind.function, names := [(".0", NameKind.local), ("row", NameKind.cell), ("columns", NameKind.cell)], isGenerator := false, isCoroutine := false }
theorem canon_mem {cs r : List Str} {x : Str} : x ∈ canon cs r ↔ x ∈ cs ∧ x ∈ r := by
  unfold canon; rw [List.mem_filter, decide_eq_true_iff]
theorem canon_idem (cs r : List Str) : canon cs (canon cs r) = canon cs r := by
  refine List.filter_congr fun x hx => ?_
  exact decide_eq_decide.mpr ⟨fun h => (canon_mem.mp h).2, fun h => canon_mem.mpr ⟨hx, h⟩⟩
theorem rows_canon {cs : List Str} (co : Cols cs) (rs : List (List Str)) : RowsOk cs (rs.map (canon cs)) := fun x hx => by
  obtain ⟨r, _, rfl⟩ := List.mem_map.mp hx
  exact ⟨List.Nodup.sublist List.filter_sublist co.nd, fun y hy => (canon_mem.mp hy).1⟩
theorem map_canon (cs : List Str) (rs : List (List Str)) : (rs.map (canon cs)).map (canon cs) = rs.map (canon cs) := by
  rw [List.map_map]
  exact List.map_congr_left fun r _ => canon_idem cs r
theorem short_of {cs : List Str} {rs : List (List Str)} (co : Cols cs) (h : RowsOk cs rs) (hn : rs.length ≤ 48) : Short cs rs :=
  ⟨fun z hz => (co.g z hz).le, co.n, fun x hx => by
    obtain ⟨a, b⟩ := h x hx
    have := nd_len x cs a b
    have := co.n
    exact ⟨by omega, fun z hz => (co.g z (b z hz)).le⟩, hn⟩
/-- law's: a list of at most 63 ints is handed in, True comes out -/
def spLaw (K : PySem.W.Frag) : Sp := fun vs H Q _ => ∃ (a : Addr) (ns : List Int), vs = [.ref a] ∧ SqL K H a (ns.map V.int) ∧ ns.length ≤ 63 ∧ ∀ H', Q (.bl true) H'
section
variable {P : Program} {w : World} {K : PySem.W.Frag} {mg : Str → Option Value} {base : Heap} {A : Ad}
theorem ok_law (T : Txt P K mg A) : FnOk P w K mg base CX0 15 A.a_law A.d_law ["script"] (spLaw K) := by
  have G_law_pool := ok_pool (P := P) (w := w) (base := base) T
  have G_law_drawn := ok_drawn (P := P) (w := w) (base := base) T
  have G_Table_init := ok_table (P := P) (w := w) (base := base) T
  have G_law_written := ok_written (P := P) (w := w) (base := base) T
  have G_table_text := ok_text (P := P) (w := w) (base := base) T
  have G_law_reads := ok_reads (P := P) (w := w) (base := base) T
  have G_law_edited := ok_edited (P := P) (w := w) (base := base) T
  have G_law_answers := ok_ans (P := P) (w := w) (base := base) T
  have G_law_is := ok_is (P := P) (w := w) (base := base) T
  refine T.F_law.ok sc_law (fun vs H Q E h => ?_) (fun cdv A' outer s H vs Q E hr h => ?_)
  · obtain ⟨a, ns, rfl, _⟩ := h
    rfl
  · obtain ⟨sa, ns, rfl, hS, hlen, k⟩ := h
    refine ⟨_, (pss_cons (ps_set (i := 1) sc_law.nd rfl (Or.inl rfl) (pe_call G_law_drawn (hr.mono (by decide)) rfl T.mg_law_drawn T.F_law_drawn.kp T.b_law_drawn .nil pass0 (pa_cons (pv 0) pa_nil)))
      (pss_cons (ps_set (i := 2) sc_law.nd rfl (Or.inr rfl) (pe_ix ix_list (pv 1) pe_int (fun _ _ => rfl)))
      (pss_cons (ps_set (i := 3) sc_law.nd rfl (Or.inl rfl) (pe_ix ix_list (pv 1) pe_int (fun _ _ => rfl)))
      (pss_cons (ps_set (i := 4) sc_law.nd rfl (Or.inl rfl) (pe_call G_law_pool (hr.mono (by decide)) rfl T.mg_law_pool T.F_law_pool.kp T.b_law_pool .nil pass0 (pa_cons (pv 0) (pa_cons pe_int (pa_cons pe_int pa_nil)))))
      (pss_cons (ps_set (i := 5) sc_law.nd rfl (Or.inl rfl) (pe_make T.mk_Table G_Table_init (hr.mono (by decide)) rfl T.mg_Table T.bi .nil pass0 (pa_cons (pe_callTy call_list_of (by rfl) T.n_list (by decide +kernel) (pa_cons (pv 2) pa_nil)) (pa_cons (pe_lc (own := [("row", 11)]) (g := gName 11) (tt := tYes) rfl sc_law.nd (pi_list (pv 3)) (blkOk_by (N := ["script", "made", "columns", "rows", "edits", "table", "text", "told", "other", "spoiled", "wrong", "row", "name"]) (sc := defScope s_law) (by decide +kernel)) (fun _ _ _ _ _ => (pg_name (i := 11) sc_law.nd rfl (Or.inl rfl))) (fun _ _ _ _ _ => pts_nil) (fun _ _ _ _ _ => (pe_callTy (show CallR _ _ (rListOf K) from call_list_of) (by rfl) T.n_list (by decide +kernel) (pa_cons (pv 11) pa_nil)))) pa_nil))))
      (pss_cons (ps_set (i := 6) sc_law.nd rfl (Or.inl rfl) (pe_call G_law_written (hr.mono (by decide)) rfl T.mg_law_written T.F_law_written.kp T.b_law_written .nil pass0 (pa_cons (pv 2) (pa_cons (pe_lc (own := [("row", 11)]) (g := gName 11) (tt := tYes) rfl sc_law.nd (pi_list (pv 3)) (blkOk_by (N := ["script", "made", "columns", "rows", "edits", "table", "text", "told", "other", "spoiled", "wrong", "row", "name"]) (sc := defScope s_law) (by decide +kernel)) (fun _ _ _ _ _ => (pg_name (i := 11) sc_law.nd rfl (Or.inr rfl))) (fun _ _ _ _ _ => pts_nil) (fun _ _ _ _ _ => (pe_lc (own := [("name", 12)]) (g := gName 12) (tt := _) rfl sc_law.nd (show PI _ _ _ (iList K _) from (pi_list (pv 2))) (blkOk_by (N := ["script", "made", "columns", "rows", "edits", "table", "text", "told", "other", "spoiled", "wrong", "row", "name"]) (sc := nsc_law) (by decide +kernel)) (fun _ _ _ _ _ => (pg_name (i := 12) sc_law.nd rfl (Or.inl rfl))) (fun _ _ _ _ _ => (pts_one (pt_cmpR (show OpR _ _ (rIn K false) from op_in_seq) (pv 12) (pv 11) (by with_unfolding_all rfl)))) (fun _ _ _ _ _ => (pv 12))))) pa_nil))))
      (pss_cons (ps_set (i := 7) sc_law.nd rfl (Or.inl rfl) (pe_call G_table_text (hr.mono (by decide)) rfl T.mg_table_text T.F_table_text.kp T.b_table_text .nil pass0 (pa_cons (pv 5) pa_nil)))
      (pss_cons (ps_if (PW.pt (pw_or (pt_not (pt_val (pe_callB call_isi (by rfl) T.n_isinstance (by decide +kernel) (pa_cons (pv 7) (pa_cons (pe_bltn (v := .ty "str") (by rfl) T.n_str (by decide +kernel) rfl) pa_nil))))) (pw_or1 (pt_cmpR op_ne (pv 7) (pv 6) (nomark _))))) (pss_one (ps_ret pe_bl)) pss_nil)
      (pss_cons (ps_set (i := 8) sc_law.nd rfl (Or.inl rfl) (pe_call G_law_written (hr.mono (by decide)) rfl T.mg_law_written T.F_law_written.kp T.b_law_written .nil pass0 (pa_cons (pv 2) (pa_cons (pv 3) pa_nil))))
      (pss_cons (ps_if (PW.pt (pw_or (pt_not (pt_val (pe_call G_law_reads (hr.mono (by decide)) rfl T.mg_law_reads T.F_law_reads.kp T.b_law_reads .nil pass0 (pa_cons (pv 6) (pa_cons (pv 2) (pa_cons (pv 3) pa_nil)))))) (pw_or1 (pt_not (pt_val (pe_call G_law_reads (hr.mono (by decide)) rfl T.mg_law_reads T.F_law_reads.kp T.b_law_reads .nil pass0 (pa_cons (pv 8) (pa_cons (pv 2) (pa_cons (pv 3) pa_nil))))))))) (pss_one (ps_ret pe_bl)) pss_nil)
      (pss_cons (ps_set (i := 9) sc_law.nd rfl (Or.inl rfl) (pe_call G_law_edited (hr.mono (by decide)) rfl T.mg_law_edited T.F_law_edited.kp T.b_law_edited .nil pass0 (pa_cons (pv 8) (pa_cons (pv 4) (pa_cons pe_int pa_nil)))))
      (pss_cons (ps_if (PW.pt (pw_or (pt_not (pt_val (pe_call G_law_answers (hr.mono (by decide)) rfl T.mg_law_answers T.F_law_answers.kp T.b_law_answers .nil pass0 (pa_cons (pv 9) pa_nil)))) (pw_or1 (pt_not (pt_val (pe_call G_law_answers (hr.mono (by decide)) rfl T.mg_law_answers T.F_law_answers.kp T.b_law_answers .nil pass0 (pa_cons (pe_call G_law_edited (hr.mono (by decide)) rfl T.mg_law_edited T.F_law_edited.kp T.b_law_edited .nil pass0 (pa_cons (pv 9) (pa_cons (pv 4) (pa_cons pe_int pa_nil)))) pa_nil))))))) (pss_one (ps_ret pe_bl)) pss_nil)
      (pss_cons (ps_for PassesOwn.never rfl (pi_list (pe_lst (pa_cons pe_str (pa_cons (pe_op op_add_str (pv 6) pe_str) (pa_cons (pe_op op_add_str (pv 6) pe_str) (pa_cons (pe_op op_add_str pe_str (pv 6)) (pa_cons (pe_op op_add_str pe_str (pv 6)) pa_nil))))))) (pg_name (i := 10) sc_law.nd rfl (Or.inl rfl))
        (pss_one (ps_if (pt_not (pt_val (pe_call G_law_answers (hr.mono (by decide)) rfl T.mg_law_answers T.F_law_answers.kp T.b_law_answers .nil pass0 (pa_cons (pv 10) pa_nil)))) (pss_one (ps_ret pe_bl)) pss_nil)))
      (pss_cons (ps_if (PW.pt (pw_or (pt_not (pt_val (pe_call G_law_answers (hr.mono (by decide)) rfl T.mg_law_answers T.F_law_answers.kp T.b_law_answers .nil pass0 (pa_cons (pe_call G_law_edited (hr.mono (by decide)) rfl T.mg_law_edited T.F_law_edited.kp T.b_law_edited .nil pass0 (pa_cons (pv 6) (pa_cons (pv 4) (pa_cons pe_int pa_nil)))) pa_nil)))) (pw_or1 (pt_not (pt_val (pe_call G_law_answers (hr.mono (by decide)) rfl T.mg_law_answers T.F_law_answers.kp T.b_law_answers .nil pass0 (pa_cons (pe_call G_law_edited (hr.mono (by decide)) rfl T.mg_law_edited T.F_law_edited.kp T.b_law_edited .nil pass0 (pa_cons (pv 8) (pa_cons (pv 4) (pa_cons pe_int pa_nil)))) pa_nil))))))) (pss_one (ps_ret pe_bl)) pss_nil)
      (pss_one (ps_ret (pe_and (pe_call G_law_reads (hr.mono (by decide)) rfl T.mg_law_reads T.F_law_reads.kp T.b_law_reads .nil pass0 (pa_cons (pv 6) (pa_cons (pv 2) (pa_cons (pv 3) pa_nil)))) (pe_and (pe_cmpR op_eq (pe_call G_table_text (hr.mono (by decide)) rfl T.mg_table_text T.F_table_text.kp T.b_table_text .nil pass0 (pa_cons (pv 5) pa_nil)) (pv 6) (nomark _)) (pe_one (pe_call G_law_is (hr.mono (by decide)) rfl T.mg_law_is T.F_law_is.kp T.b_law_is .nil pass0 (pa_cons (pv 5) (pa_cons (pv 2) (pa_cons (pv 3) pa_nil))))))))))))))))))))))), ?_⟩
    refine ⟨_, rfl, sa, ns, rfl, hS, fun m c r cs ts rs H1 s1 hm hc hr1 hts co hok hrl => ?_⟩
    have at0 : atI [V.ref c, .ref r] 0 = some (V.ref c) := by
      show atI _ ((0 : Nat) : Int) = _
      exact atI_nat rfl
    have at1 : atI [V.ref c, .ref r] 1 = some (V.ref r) := by
      show atI _ ((1 : Nat) : Int) = _
      exact atI_nat rfl
    refine ⟨_, rfl, m, _, _, _, rfl, rfl, SqL.of hm, at0, ?_⟩
    refine ⟨_, rfl, m, _, _, _, rfl, rfl, SqL.of hm, at1, ?_⟩
    refine ⟨_, rfl, sa, ns, 2, 60, rfl, s1.seq hS, by decide, by decide, by decide, fun q qs H2 s2 h2 l2 P2 => ?_⟩
    have q60 : qs.length = 60 := by omega
    have hc2 := s2 _ _ hc
    have hr2 := s2 _ _ hr1
    have hts2 := hts.same s2
    clear hm hc hr1 hts s1 s2 hS
    refine ⟨_, rfl, c, _, rfl, .inl (SqL.of hc2), fun l hl => ?_⟩
    have sl := same_new (o := .lst (sv cs)) hl
    refine ⟨_, rfl, r, rfl, ⟨_, sl.seq (SqL.of hr2)⟩, fun D hD => lc_it walk_list (fun i H8 => LcL (upd H2 l (.lst (sv cs))) D (rs.take i) H8) (lcl0 hD) (fun i H8 _ q => (sl.trans q.1).seq (SqL.of hr2)) ?_ ?_⟩
    · rintro i x H80 H8 hi q8 ⟨rfl, hx⟩
      obtain ⟨b, hb, rfl⟩ := refs_get hx
      obtain ⟨y, hy, ho8⟩ := ((hts2.same sl).same q8.1).get hb
      refine ⟨rfl, _, rfl, b, _, rfl, .inl (SqL.of ho8), fun a ha => ?_⟩
      rw [take_succ hy]
      exact q8.new hD ha (by rw [List.length_take]; omega)
    rintro H8 ⟨s8, us, hd8, hl8, hne⟩
    rw [List.length_map, hts2.len, List.take_length] at hl8
    have hl80 := s8 _ _ (upd_same (H := H2) (a := l) (o := .lst (sv cs)))
    refine fun t dx nx ndx nex => ?_
    have st : Same H8 (upd (upd H8 dx (HO.own t)) t (HO.ins A.C_Table dx [])) := (same_new ndx).trans (same_new (by rw [upd_ne nex.symm]; exact nx))
    refine ⟨t, l, D, dx, cs, us, rs, rfl, upd_same, st.seq (SqL.of hl80), st.seq (SqL.of hd8), hl8.same st, co.g, co.nd, co.n, hrl, hok.st co.n, fun H9 sm9 tb => ⟨rfl, ?_⟩⟩
    have s79 : Same H2 H9 := fun b o' e => by
      have e8 := s8 _ _ (sl _ _ e)
      exact sm9 b o' (ne_of_none e8 nx) (st _ _ e8)
    have hC := s79 _ _ hc2
    have hR := s79 _ _ hr2
    have hQ := s79 _ _ h2
    have hts := hts2.same s79
    clear s79 sm9 st nex ndx nx hl8 hne hd8 hl80 s8 hD sl hl h2 hts2 hc2 hr2 l2
    have hcan := rows_canon co rs
    have hcl : (rs.map (canon cs)).length ≤ 48 := by rw [List.length_map]; exact hrl
    have sh := short_of co hok hrl
    have shc := short_of co hcan hcl
    -- the text
    refine ⟨_, rfl, _, rfl, r, rfl, ⟨_, SqL.of hR⟩, fun D hD => lc_it walk_list (fun i H8 => LcL H9 D ((rs.map (canon cs)).take i) H8) (lcl0 hD) (fun i H8 _ q => q.1.seq (SqL.of hR)) ?_ ?_⟩
    · rintro i x H80 H8 hi q8 ⟨rfl, hx⟩
      obtain ⟨b, hb, rfl⟩ := refs_get hx
      obtain ⟨y, hy, ho8⟩ := (hts.same q8.1).get hb
      have hC8 : SqL K H8 c (sv cs) := q8.1.seq (SqL.of hC)
      refine ⟨rfl, _, rfl, c, rfl, ⟨_, hC8⟩, fun D2 hD2 => lc_it walk_list (PvS H8 D2 fun i => sv (canon (cs.take i) y)) (pv0 hD2 rfl) (fun i H2 _ q => q.1.seq hC8) ?_ ?_⟩
      · rintro j x H30 H3 hj q ⟨rfl, hx⟩
        obtain ⟨z, hz, rfl⟩ := sv_get hx
        refine ⟨rfl, _, rfl, _, rfl, b, _, rfl, .inl (SqL.of (q.1 _ _ ho8)), rfl, flat_sv _, _, rfl, ?_⟩
        rw [if_neg Bool.false_ne_true, inV_str]
        have hlen : (sv (canon (cs.take j) y)).length ≤ 1000000 := by
          have := List.length_filter_le (fun x => decide (x ∈ y)) (cs.take j)
          rw [List.length_take] at this
          have := co.n
          rw [len_sv]; unfold canon; omega
        by_cases hm : z ∈ y
        · exact ifT (decide_eq_true hm) ⟨_, rfl, q.push hD2 (by
            show sv (canon (cs.take (j + 1)) y) = _
            rw [take_succ hz, canon_T hm]; exact List.map_append) hlen⟩
        · exact ifF (decide_eq_false hm) (q.skip (by
            show sv (canon (cs.take (j + 1)) y) = _
            rw [take_succ hz, canon_F hm]))
      rintro H3 ⟨sm, h3⟩
      have h3 : H3 D2 = some (.lst (sv (canon (cs.take (sv cs).length) y))) := h3
      rw [len_sv, List.take_length] at h3
      have ek : (rs.map (canon cs))[i]? = some (canon cs y) := by rw [List.getElem?_map, hy]; rfl
      rw [take_succ ek]
      exact q8.push hD sm h3 (by obtain ⟨_, us, hd, _⟩ := q8; exact (ne_of_none hd hD2).symm) (by rw [List.length_take]; omega)
    rintro H8 ⟨s8, us, hd8, hl8, hne⟩
    rw [show (ts.map V.ref).length = (rs.map (canon cs)).length by rw [List.length_map, hts.len, List.length_map], List.take_length] at hl8
    refine ⟨c, D, cs, us, rs.map (canon cs), rfl, s8 _ _ hC, SqL.of hd8, hl8, shc, fun H10 s10 => ?_⟩
    have s10 := s8.trans s10
    clear s8 hd8 hl8 hne hD
    have hX := shc.fit.2
    have hO := sh.fit.2
    generalize hXe : wr cs (rs.map (canon cs)) = X at hX ⊢
    generalize hOe : wr cs rs = O at hO
    refine ⟨_, rfl, t, cs, rs, rfl, tb.same s10, shc, fun H11 s11 => ?_⟩
    have s11 := s10.trans s11
    rw [hXe]
    refine ⟨_, rfl, _, _, _, _, true, rfl, .ty _, .base (.str _), kit_ty (by decide +kernel), true, rfl, iteF ?_⟩
    refine ⟨_, rfl, _, rfl, rfl, _, rfl, itNe rfl ?_⟩
    refine ⟨_, rfl, _, rfl, c, r, cs, ts, rs, rfl, s11 _ _ hC, SqL.of (s11 _ _ hR), hts.same s11, sh, fun H12 s12 => ?_⟩
    rw [hOe]
    have s12 := s11.trans s12
    have big : 5782 ≤ 15100000 := by decide
    refine ⟨_, rfl, _, rfl, _, rfl, X, c, r, cs, ts, rs, rs.map (canon cs), rfl, hXe.symm, by omega, map_canon cs rs, hcan, SqL.of (s12 _ _ hC), SqL.of (s12 _ _ hR), hts.same s12, co, hrl, hok, fun H13 s13 => ⟨_, rfl, iteF ?_⟩⟩
    have s13 := s12.trans s13
    refine ⟨_, rfl, _, rfl, _, rfl, O, c, r, cs, ts, rs, rs, rfl, hOe.symm, by omega, rfl, hok, SqL.of (s13 _ _ hC), SqL.of (s13 _ _ hR), hts.same s13, co, hrl, hok, fun H14 s14 => ⟨_, rfl, iteF ?_⟩⟩
    have s14 := s13.trans s14
    clear s10 s11 s12 s13
    -- the edited texts
    refine ⟨_, rfl, _, rfl, q, O, qs, 0, rfl, SqL.of (s14 _ _ hQ), P2, by decide, by omega, by omega, fun Y H15 s15 hY => ?_⟩
    have s15 := s14.trans s15
    refine ⟨_, rfl, Y, rfl, by omega, fun H16 s16 => ⟨_, rfl, iteF ?_⟩⟩
    have s16 := s15.trans s16
    refine ⟨_, rfl, _, rfl, q, Y, qs, 4, rfl, SqL.of (s16 _ _ hQ), P2, by decide, by omega, by omega, fun Z H17 s17 hZ => ?_⟩
    have s17 := s16.trans s17
    refine ⟨Z, rfl, by omega, fun H18 s18 => ⟨_, rfl, iteF ?_⟩⟩
    have s18 := s17.trans s18
    clear s14 s15 s16 s17
    have big2 : 15100000 ≤ sizeLine := by decide
    have l1 : ("\n" : Str).length = 1 := ls_nl
    have l2 : (" " : Str).length = 1 := ls_sp
    refine ⟨_, rfl, _, _, rfl, rfl, by rw [l1]; omega, _, rfl, _, _, rfl, rfl, by rw [l2]; omega, _, rfl, _, _, rfl, rfl, by rw [l1]; omega, _, rfl, _, _, rfl, rfl, by rw [l2]; omega, by show 5 ≤ sizeLine; decide, fun l hl => ?_⟩
    have sl := s18.trans (same_new (o := .lst [V.str "", V.str (X ++ "\n"), V.str (X ++ " "), V.str ("\n" ++ X), V.str (" " ++ X)]) hl)
    have hl2 : upd H18 l (.lst [V.str "", V.str (X ++ "\n"), V.str (X ++ " "), V.str ("\n" ++ X), V.str (" " ++ X)]) l = some (.lst (sv ["", X ++ "\n", X ++ " ", "\n" ++ X, " " ++ X])) := upd_same
    generalize upd H18 l _ = H19 at sl hl2 ⊢
    refine ⟨l, rfl, ⟨sv ["", X ++ "\n", X ++ " ", "\n" ++ X, " " ++ X], SqL.of hl2⟩, for_it walk_list (fun i σ H6 => Same H19 H6 ∧ ∃ u : Option V, σ = [some (.ref sa), some (.ref m), some (.ref c), some (.ref r), some (.ref q), some (.ref t), some (.str X), some (.str X), some (.str O), some (.str Y), u, none, none]) ⟨Same.refl _, none, rfl⟩ (fun i σ H6 _ q => q.1.seq (SqL.of hl2)) ?_ ?_⟩
    · rintro i x σ H60 H6 hi ⟨s6, u, rfl⟩ ⟨rfl, hx⟩
      obtain ⟨z, hz, rfl⟩ := sv_get hx
      have hzl : z.length ≤ 15100000 := by
        have hm := List.mem_of_getElem? hz
        simp only [List.mem_cons, List.not_mem_nil, or_false] at hm
        rcases hm with rfl | rfl | rfl | rfl | rfl
        · decide
        all_goals (rw [Str.length_append]; first | rw [l1] | rw [l2]); omega
      exact ⟨_, rfl, z, rfl, hzl, fun H7 s7 => ⟨_, rfl, iteF ⟨s6.trans s7, _, rfl⟩⟩⟩
    rintro σ H20 ⟨s20, u, rfl⟩
    have s20 := sl.trans s20
    refine ⟨_, rfl, _, rfl, q, X, qs, 8, rfl, SqL.of (s20 _ _ hQ), P2, by decide, by omega, by omega, fun Z H21 s21 hZ => ?_⟩
    have s21 := s20.trans s21
    refine ⟨Z, rfl, by omega, fun H22 s22 => ⟨_, rfl, iteF ?_⟩⟩
    have s22 := s21.trans s22
    refine ⟨_, rfl, _, rfl, q, O, qs, 12, rfl, SqL.of (s22 _ _ hQ), P2, by decide, by omega, by omega, fun Z2 H23 s23 hZ2 => ?_⟩
    have s23 := s22.trans s23
    refine ⟨Z2, rfl, by omega, fun H24 s24 => ⟨_, rfl, iteF ?_⟩⟩
    have s24 := s23.trans s24
    refine ⟨_, rfl, _, rfl, _, rfl, X, c, r, cs, ts, rs, rs.map (canon cs), rfl, hXe.symm, by omega, map_canon cs rs, hcan, SqL.of (s24 _ _ hC), SqL.of (s24 _ _ hR), hts.same s24, co, hrl, hok, fun H25 s25 => ⟨true, rfl, iteT ?_⟩⟩
    have s25 := s24.trans s25
    refine ⟨_, rfl, t, cs, rs, rfl, tb.same s25, shc, fun H26 s26 => ?_⟩
    rw [hXe]
    have s26 := s25.trans s26
    refine ⟨_, rfl, rfl, true, congrArg V.bl (decide_eq_true rfl), iteT ?_⟩
    exact ⟨_, rfl, _, rfl, _, rfl, t, c, r, cs, ts, rs, rfl, tb.same s26, SqL.of (s26 _ _ hC), SqL.of (s26 _ _ hR), hts.same s26, co, hrl, hok.st co.n, fun H27 s27 => k _⟩
end
end My
set_option maxRecDepth 100000
set_option maxHeartbeats 4000000
set_option exponentiation.threshold 10000
namespace My
open PySem L2
theorem all_mk {l : PySem.W.OpenLaw} {w : World} {K : PySem.W.Frag} {h : Heap} {mg : Str → Option Value} {fa C_Table C_RowsError C_Unknown C_Impossible C_BadText a_BadText_init a_is_name a_first_bad_name a_first_stray a_check_columns a_check_rows a_Table_in_order a_Table_init a_Table_eq a_table_text a_is_columns_line a_is_row_line a_read_table a_law_cell a_law_pool a_law_word a_law_new a_law_marks a_law_drawn a_law_written a_law_sign a_law_lines_edited a_law_edited a_law_different a_law_described a_law_is a_law_answers a_law_reads a_law e_Table_init : Addr} (X : K.In h) (G : h.Ns mainGlobals mg) (hfa : mg "law" = some (.ref fa))
    {cd_BadText : ClassData}
    {oc_BadText_init kV_BadText_init dc_BadText_init pm_BadText_init ct_BadText_init oa_BadText_init ob_BadText_init : Value} {od_BadText_init an_BadText_init da_BadText_init db_BadText_init : Option Addr} {sl_BadText_init la_BadText_init lb_BadText_init : Array (Option Value)} {cda_BadText_init cc_BadText_init : Addr} {vs_BadText_init : Array Value} {fl_BadText_init : Str} {tf_BadText_init : Tok}
    {tk_LONGEST_NAME : Tok}
    {tk_Table_MOST_COLUMNS : Tok}
    {tk_Table_MOST_ROWS : Tok}
    {oc_is_name kV_is_name dc_is_name pm_is_name cd_is_name ct_is_name : Value} {od_is_name an_is_name : Option Addr} {sl_is_name : Array (Option Value)}
    {oc_first_bad_name kV_first_bad_name dc_first_bad_name pm_first_bad_name cd_first_bad_name ct_first_bad_name : Value} {od_first_bad_name an_first_bad_name : Option Addr} {sl_first_bad_name : Array (Option Value)}
    {oc_first_stray kV_first_stray dc_first_stray pm_first_stray cd_first_stray ct_first_stray : Value} {od_first_stray an_first_stray : Option Addr} {sl_first_stray : Array (Option Value)}
    {oc_check_columns kV_check_columns dc_check_columns pm_check_columns cd_check_columns ct_check_columns : Value} {od_check_columns an_check_columns : Option Addr} {sl_check_columns : Array (Option Value)}
    {oc_check_rows kV_check_rows dc_check_rows pm_check_rows cd_check_rows ct_check_rows : Value} {od_check_rows an_check_rows : Option Addr} {sl_check_rows : Array (Option Value)}
    {oc_Table_in_order kV_Table_in_order dc_Table_in_order pm_Table_in_order cd_Table_in_order ct_Table_in_order : Value} {od_Table_in_order an_Table_in_order : Option Addr} {sl_Table_in_order : Array (Option Value)}
    {oc_Table_init kV_Table_init dc_Table_init pm_Table_init cd_Table_init ct_Table_init : Value} {od_Table_init an_Table_init : Option Addr} {sl_Table_init : Array (Option Value)}
    {TD_Table_init : Addr} {to_Table_init : Option Addr} {tn_Table_init : Nat} {ts_Table_init : Array (Option Value)}
    {oc_Table_eq kV_Table_eq dc_Table_eq pm_Table_eq cd_Table_eq ct_Table_eq : Value} {od_Table_eq an_Table_eq : Option Addr} {sl_Table_eq : Array (Option Value)}
    {oc_table_text kV_table_text dc_table_text pm_table_text cd_table_text ct_table_text : Value} {od_table_text an_table_text : Option Addr} {sl_table_text : Array (Option Value)}
    {oc_is_columns_line kV_is_columns_line dc_is_columns_line pm_is_columns_line cd_is_columns_line ct_is_columns_line : Value} {od_is_columns_line an_is_columns_line : Option Addr} {sl_is_columns_line : Array (Option Value)}
    {oc_is_row_line kV_is_row_line dc_is_row_line pm_is_row_line cd_is_row_line ct_is_row_line : Value} {od_is_row_line an_is_row_line : Option Addr} {sl_is_row_line : Array (Option Value)}
    {oc_read_table kV_read_table dc_read_table pm_read_table cd_read_table ct_read_table : Value} {od_read_table an_read_table : Option Addr} {sl_read_table : Array (Option Value)}
    {oc_law_cell kV_law_cell dc_law_cell pm_law_cell cd_law_cell ct_law_cell : Value} {od_law_cell an_law_cell : Option Addr} {sl_law_cell : Array (Option Value)}
    {oc_law_pool kV_law_pool dc_law_pool pm_law_pool cd_law_pool ct_law_pool : Value} {od_law_pool an_law_pool : Option Addr} {sl_law_pool : Array (Option Value)}
    {oc_law_word kV_law_word dc_law_word pm_law_word cd_law_word ct_law_word : Value} {od_law_word an_law_word : Option Addr} {sl_law_word : Array (Option Value)}
    {oc_law_new kV_law_new dc_law_new pm_law_new cd_law_new ct_law_new : Value} {od_law_new an_law_new : Option Addr} {sl_law_new : Array (Option Value)}
    {oc_law_marks kV_law_marks dc_law_marks pm_law_marks cd_law_marks ct_law_marks : Value} {od_law_marks an_law_marks : Option Addr} {sl_law_marks : Array (Option Value)}
    {oc_law_drawn kV_law_drawn dc_law_drawn pm_law_drawn cd_law_drawn ct_law_drawn : Value} {od_law_drawn an_law_drawn : Option Addr} {sl_law_drawn : Array (Option Value)}
    {oc_law_written kV_law_written dc_law_written pm_law_written cd_law_written ct_law_written : Value} {od_law_written an_law_written : Option Addr} {sl_law_written : Array (Option Value)}
    {oc_law_sign kV_law_sign dc_law_sign pm_law_sign cd_law_sign ct_law_sign : Value} {od_law_sign an_law_sign : Option Addr} {sl_law_sign : Array (Option Value)}
    {oc_law_lines_edited kV_law_lines_edited dc_law_lines_edited pm_law_lines_edited cd_law_lines_edited ct_law_lines_edited : Value} {od_law_lines_edited an_law_lines_edited : Option Addr} {sl_law_lines_edited : Array (Option Value)}
    {oc_law_edited kV_law_edited dc_law_edited pm_law_edited cd_law_edited ct_law_edited : Value} {od_law_edited an_law_edited : Option Addr} {sl_law_edited : Array (Option Value)}
    {oc_law_different kV_law_different dc_law_different pm_law_different cd_law_different ct_law_different : Value} {od_law_different an_law_different : Option Addr} {sl_law_different : Array (Option Value)}
    {oc_law_described kV_law_described dc_law_described pm_law_described cd_law_described ct_law_described : Value} {od_law_described an_law_described : Option Addr} {sl_law_described : Array (Option Value)}
    {oc_law_is kV_law_is dc_law_is pm_law_is cd_law_is ct_law_is : Value} {od_law_is an_law_is : Option Addr} {sl_law_is : Array (Option Value)}
    {oc_law_answers kV_law_answers dc_law_answers pm_law_answers cd_law_answers ct_law_answers : Value} {od_law_answers an_law_answers : Option Addr} {sl_law_answers : Array (Option Value)}
    {oc_law_reads kV_law_reads dc_law_reads pm_law_reads cd_law_reads ct_law_reads : Value} {od_law_reads an_law_reads : Option Addr} {sl_law_reads : Array (Option Value)}
    {oc_law kV_law dc_law pm_law cd_law ct_law : Value} {od_law an_law : Option Addr} {sl_law : Array (Option Value)}
    (xmg_Table : PySem.W.nsIn K mainGlobals "Table" = some (some (.ref C_Table)))
    (xmg_RowsError : PySem.W.nsIn K mainGlobals "RowsError" = some (some (.ref C_RowsError)))
    (xmg_Unknown : PySem.W.nsIn K mainGlobals "Unknown" = some (some (.ref C_Unknown)))
    (xmg_Impossible : PySem.W.nsIn K mainGlobals "Impossible" = some (some (.ref C_Impossible)))
    (xmg_BadText : PySem.W.nsIn K mainGlobals "BadText" = some (some (.ref C_BadText)))
    (am_BadText_init : PySem.W.findIn K (.ref C_BadText) "__init__" = some (some (.ref a_BadText_init)))
    (xmg_LONGEST_NAME : PySem.W.nsIn K mainGlobals "LONGEST_NAME" = some (some (.int 8 tk_LONGEST_NAME)))
    (xmg_is_name : PySem.W.nsIn K mainGlobals "is_name" = some (some (.ref a_is_name)))
    (xmg_first_bad_name : PySem.W.nsIn K mainGlobals "first_bad_name" = some (some (.ref a_first_bad_name)))
    (xmg_first_stray : PySem.W.nsIn K mainGlobals "first_stray" = some (some (.ref a_first_stray)))
    (xmg_check_columns : PySem.W.nsIn K mainGlobals "check_columns" = some (some (.ref a_check_columns)))
    (xmg_check_rows : PySem.W.nsIn K mainGlobals "_check_rows" = some (some (.ref a_check_rows)))
    (am_Table_in_order : PySem.W.findIn K (.ref C_Table) "_in_order" = some (some (.ref a_Table_in_order)))
    (am_Table_init : PySem.W.findIn K (.ref C_Table) "__init__" = some (some (.ref a_Table_init)))
    (am_Table_eq : PySem.W.findIn K (.ref C_Table) "__eq__" = some (some (.ref a_Table_eq)))
    (xmg_table_text : PySem.W.nsIn K mainGlobals "table_text" = some (some (.ref a_table_text)))
    (xmg_is_columns_line : PySem.W.nsIn K mainGlobals "is_columns_line" = some (some (.ref a_is_columns_line)))
    (xmg_is_row_line : PySem.W.nsIn K mainGlobals "_is_row_line" = some (some (.ref a_is_row_line)))
    (xmg_read_table : PySem.W.nsIn K mainGlobals "read_table" = some (some (.ref a_read_table)))
    (xmg_law_cell : PySem.W.nsIn K mainGlobals "_law_cell" = some (some (.ref a_law_cell)))
    (xmg_law_pool : PySem.W.nsIn K mainGlobals "_law_pool" = some (some (.ref a_law_pool)))
    (xmg_law_word : PySem.W.nsIn K mainGlobals "_law_word" = some (some (.ref a_law_word)))
    (xmg_law_new : PySem.W.nsIn K mainGlobals "_law_new" = some (some (.ref a_law_new)))
    (xmg_law_marks : PySem.W.nsIn K mainGlobals "_law_marks" = some (some (.ref a_law_marks)))
    (xmg_law_drawn : PySem.W.nsIn K mainGlobals "_law_drawn" = some (some (.ref a_law_drawn)))
    (xmg_law_written : PySem.W.nsIn K mainGlobals "_law_written" = some (some (.ref a_law_written)))
    (xmg_law_sign : PySem.W.nsIn K mainGlobals "_law_sign" = some (some (.ref a_law_sign)))
    (xmg_law_lines_edited : PySem.W.nsIn K mainGlobals "_law_lines_edited" = some (some (.ref a_law_lines_edited)))
    (xmg_law_edited : PySem.W.nsIn K mainGlobals "_law_edited" = some (some (.ref a_law_edited)))
    (xmg_law_different : PySem.W.nsIn K mainGlobals "_law_different" = some (some (.ref a_law_different)))
    (xmg_law_described : PySem.W.nsIn K mainGlobals "_law_described" = some (some (.ref a_law_described)))
    (xmg_law_is : PySem.W.nsIn K mainGlobals "_law_is" = some (some (.ref a_law_is)))
    (xmg_law_answers : PySem.W.nsIn K mainGlobals "_law_answers" = some (some (.ref a_law_answers)))
    (xmg_law_reads : PySem.W.nsIn K mainGlobals "_law_reads" = some (some (.ref a_law_reads)))
    (xmg_law : PySem.W.nsIn K mainGlobals "law" = some (some (.ref a_law)))
    (if_Table_in_order : PySem.W.isFn K (.ref a_Table_in_order) = true)
    (if_Table_init : PySem.W.isFn K (.ref a_Table_init) = true)
    (if_Table_eq : PySem.W.isFn K (.ref a_Table_eq) = true)
    (l_BadText_init : K.lookup a_BadText_init = some ⟨oc_BadText_init, od_BadText_init, .func (PySem.W.ksFn "__init__" "BadText.__init__" (defArgs s_BadText_init) (defBody s_BadText_init) (defScope s_BadText_init) .none kV_BadText_init dc_BadText_init pm_BadText_init an_BadText_init (.ref cda_BadText_init) ct_BadText_init cc_BadText_init), sl_BadText_init⟩)
    (l_is_name : K.lookup a_is_name = some ⟨oc_is_name, od_is_name, .func (PySem.W.fnOf "is_name" "is_name" (defArgs s_is_name) (defBody s_is_name) (defScope s_is_name) .none kV_is_name dc_is_name pm_is_name an_is_name cd_is_name ct_is_name), sl_is_name⟩)
    (l_first_bad_name : K.lookup a_first_bad_name = some ⟨oc_first_bad_name, od_first_bad_name, .func (PySem.W.fnOf "first_bad_name" "first_bad_name" (defArgs s_first_bad_name) (defBody s_first_bad_name) (defScope s_first_bad_name) .none kV_first_bad_name dc_first_bad_name pm_first_bad_name an_first_bad_name cd_first_bad_name ct_first_bad_name), sl_first_bad_name⟩)
    (l_first_stray : K.lookup a_first_stray = some ⟨oc_first_stray, od_first_stray, .func (PySem.W.fnOf "first_stray" "first_stray" (defArgs s_first_stray) (defBody s_first_stray) (defScope s_first_stray) .none kV_first_stray dc_first_stray pm_first_stray an_first_stray cd_first_stray ct_first_stray), sl_first_stray⟩)
    (l_check_columns : K.lookup a_check_columns = some ⟨oc_check_columns, od_check_columns, .func (PySem.W.fnOf "check_columns" "check_columns" (defArgs s_check_columns) (defBody s_check_columns) (defScope s_check_columns) .none kV_check_columns dc_check_columns pm_check_columns an_check_columns cd_check_columns ct_check_columns), sl_check_columns⟩)
    (l_check_rows : K.lookup a_check_rows = some ⟨oc_check_rows, od_check_rows, .func (PySem.W.fnOf "_check_rows" "_check_rows" (defArgs s_check_rows) (defBody s_check_rows) (defScope s_check_rows) .none kV_check_rows dc_check_rows pm_check_rows an_check_rows cd_check_rows ct_check_rows), sl_check_rows⟩)
    (l_Table_in_order : K.lookup a_Table_in_order = some ⟨oc_Table_in_order, od_Table_in_order, .func (PySem.W.fnOf "_in_order" "Table._in_order" (defArgs s_Table_in_order) (defBody s_Table_in_order) (defScope s_Table_in_order) .none kV_Table_in_order dc_Table_in_order pm_Table_in_order an_Table_in_order cd_Table_in_order ct_Table_in_order), sl_Table_in_order⟩)
    (l_Table_init : K.lookup a_Table_init = some ⟨oc_Table_init, od_Table_init, .func (PySem.W.fnOf "__init__" "Table.__init__" (defArgs s_Table_init) (defBody s_Table_init) (defScope s_Table_init) (.ref TD_Table_init) kV_Table_init dc_Table_init pm_Table_init an_Table_init cd_Table_init ct_Table_init), sl_Table_init⟩)
    (l_Table_eq : K.lookup a_Table_eq = some ⟨oc_Table_eq, od_Table_eq, .func (PySem.W.fnOf "__eq__" "Table.__eq__" (defArgs s_Table_eq) (defBody s_Table_eq) (defScope s_Table_eq) .none kV_Table_eq dc_Table_eq pm_Table_eq an_Table_eq cd_Table_eq ct_Table_eq), sl_Table_eq⟩)
    (l_table_text : K.lookup a_table_text = some ⟨oc_table_text, od_table_text, .func (PySem.W.fnOf "table_text" "table_text" (defArgs s_table_text) (defBody s_table_text) (defScope s_table_text) .none kV_table_text dc_table_text pm_table_text an_table_text cd_table_text ct_table_text), sl_table_text⟩)
    (l_is_columns_line : K.lookup a_is_columns_line = some ⟨oc_is_columns_line, od_is_columns_line, .func (PySem.W.fnOf "is_columns_line" "is_columns_line" (defArgs s_is_columns_line) (defBody s_is_columns_line) (defScope s_is_columns_line) .none kV_is_columns_line dc_is_columns_line pm_is_columns_line an_is_columns_line cd_is_columns_line ct_is_columns_line), sl_is_columns_line⟩)
    (l_is_row_line : K.lookup a_is_row_line = some ⟨oc_is_row_line, od_is_row_line, .func (PySem.W.fnOf "_is_row_line" "_is_row_line" (defArgs s_is_row_line) (defBody s_is_row_line) (defScope s_is_row_line) .none kV_is_row_line dc_is_row_line pm_is_row_line an_is_row_line cd_is_row_line ct_is_row_line), sl_is_row_line⟩)
    (l_read_table : K.lookup a_read_table = some ⟨oc_read_table, od_read_table, .func (PySem.W.fnOf "read_table" "read_table" (defArgs s_read_table) (defBody s_read_table) (defScope s_read_table) .none kV_read_table dc_read_table pm_read_table an_read_table cd_read_table ct_read_table), sl_read_table⟩)
    (l_law_cell : K.lookup a_law_cell = some ⟨oc_law_cell, od_law_cell, .func (PySem.W.fnOf "_law_cell" "_law_cell" (defArgs s_law_cell) (defBody s_law_cell) (defScope s_law_cell) .none kV_law_cell dc_law_cell pm_law_cell an_law_cell cd_law_cell ct_law_cell), sl_law_cell⟩)
    (l_law_pool : K.lookup a_law_pool = some ⟨oc_law_pool, od_law_pool, .func (PySem.W.fnOf "_law_pool" "_law_pool" (defArgs s_law_pool) (defBody s_law_pool) (defScope s_law_pool) .none kV_law_pool dc_law_pool pm_law_pool an_law_pool cd_law_pool ct_law_pool), sl_law_pool⟩)
    (l_law_word : K.lookup a_law_word = some ⟨oc_law_word, od_law_word, .func (PySem.W.fnOf "_law_word" "_law_word" (defArgs s_law_word) (defBody s_law_word) (defScope s_law_word) .none kV_law_word dc_law_word pm_law_word an_law_word cd_law_word ct_law_word), sl_law_word⟩)
    (l_law_new : K.lookup a_law_new = some ⟨oc_law_new, od_law_new, .func (PySem.W.fnOf "_law_new" "_law_new" (defArgs s_law_new) (defBody s_law_new) (defScope s_law_new) .none kV_law_new dc_law_new pm_law_new an_law_new cd_law_new ct_law_new), sl_law_new⟩)
    (l_law_marks : K.lookup a_law_marks = some ⟨oc_law_marks, od_law_marks, .func (PySem.W.fnOf "_law_marks" "_law_marks" (defArgs s_law_marks) (defBody s_law_marks) (defScope s_law_marks) .none kV_law_marks dc_law_marks pm_law_marks an_law_marks cd_law_marks ct_law_marks), sl_law_marks⟩)
    (l_law_drawn : K.lookup a_law_drawn = some ⟨oc_law_drawn, od_law_drawn, .func (PySem.W.fnOf "_law_drawn" "_law_drawn" (defArgs s_law_drawn) (defBody s_law_drawn) (defScope s_law_drawn) .none kV_law_drawn dc_law_drawn pm_law_drawn an_law_drawn cd_law_drawn ct_law_drawn), sl_law_drawn⟩)
    (l_law_written : K.lookup a_law_written = some ⟨oc_law_written, od_law_written, .func (PySem.W.fnOf "_law_written" "_law_written" (defArgs s_law_written) (defBody s_law_written) (defScope s_law_written) .none kV_law_written dc_law_written pm_law_written an_law_written cd_law_written ct_law_written), sl_law_written⟩)
    (l_law_sign : K.lookup a_law_sign = some ⟨oc_law_sign, od_law_sign, .func (PySem.W.fnOf "_law_sign" "_law_sign" (defArgs s_law_sign) (defBody s_law_sign) (defScope s_law_sign) .none kV_law_sign dc_law_sign pm_law_sign an_law_sign cd_law_sign ct_law_sign), sl_law_sign⟩)
    (l_law_lines_edited : K.lookup a_law_lines_edited = some ⟨oc_law_lines_edited, od_law_lines_edited, .func (PySem.W.fnOf "_law_lines_edited" "_law_lines_edited" (defArgs s_law_lines_edited) (defBody s_law_lines_edited) (defScope s_law_lines_edited) .none kV_law_lines_edited dc_law_lines_edited pm_law_lines_edited an_law_lines_edited cd_law_lines_edited ct_law_lines_edited), sl_law_lines_edited⟩)
    (l_law_edited : K.lookup a_law_edited = some ⟨oc_law_edited, od_law_edited, .func (PySem.W.fnOf "_law_edited" "_law_edited" (defArgs s_law_edited) (defBody s_law_edited) (defScope s_law_edited) .none kV_law_edited dc_law_edited pm_law_edited an_law_edited cd_law_edited ct_law_edited), sl_law_edited⟩)
    (l_law_different : K.lookup a_law_different = some ⟨oc_law_different, od_law_different, .func (PySem.W.fnOf "_law_different" "_law_different" (defArgs s_law_different) (defBody s_law_different) (defScope s_law_different) .none kV_law_different dc_law_different pm_law_different an_law_different cd_law_different ct_law_different), sl_law_different⟩)
    (l_law_described : K.lookup a_law_described = some ⟨oc_law_described, od_law_described, .func (PySem.W.fnOf "_law_described" "_law_described" (defArgs s_law_described) (defBody s_law_described) (defScope s_law_described) .none kV_law_described dc_law_described pm_law_described an_law_described cd_law_described ct_law_described), sl_law_described⟩)
    (l_law_is : K.lookup a_law_is = some ⟨oc_law_is, od_law_is, .func (PySem.W.fnOf "_law_is" "_law_is" (defArgs s_law_is) (defBody s_law_is) (defScope s_law_is) .none kV_law_is dc_law_is pm_law_is an_law_is cd_law_is ct_law_is), sl_law_is⟩)
    (l_law_answers : K.lookup a_law_answers = some ⟨oc_law_answers, od_law_answers, .func (PySem.W.fnOf "_law_answers" "_law_answers" (defArgs s_law_answers) (defBody s_law_answers) (defScope s_law_answers) .none kV_law_answers dc_law_answers pm_law_answers an_law_answers cd_law_answers ct_law_answers), sl_law_answers⟩)
    (l_law_reads : K.lookup a_law_reads = some ⟨oc_law_reads, od_law_reads, .func (PySem.W.fnOf "_law_reads" "_law_reads" (defArgs s_law_reads) (defBody s_law_reads) (defScope s_law_reads) .none kV_law_reads dc_law_reads pm_law_reads an_law_reads cd_law_reads ct_law_reads), sl_law_reads⟩)
    (l_law : K.lookup a_law = some ⟨oc_law, od_law, .func (PySem.W.fnOf "law" "law" (defArgs s_law) (defBody s_law) (defScope s_law) .none kV_law dc_law pm_law an_law cd_law ct_law), sl_law⟩)
    (lx_BadText_init : K.lookup cda_BadText_init = some ⟨oa_BadText_init, da_BadText_init, .fields vs_BadText_init, la_BadText_init⟩)
    (lq_BadText_init : K.lookup cc_BadText_init = some ⟨ob_BadText_init, db_BadText_init, .cell (some (.ref C_BadText)), lb_BadText_init⟩)
    (c_BadText_init : PySem.W.codeIn K (.ref cda_BadText_init) "BadText.__init__" = true)
    (c_is_name : PySem.W.codeIn K cd_is_name "is_name" = true)
    (k_is_name : PySem.W.keepIn K (.ref a_is_name) = true)
    (c_first_bad_name : PySem.W.codeIn K cd_first_bad_name "first_bad_name" = true)
    (k_first_bad_name : PySem.W.keepIn K (.ref a_first_bad_name) = true)
    (c_first_stray : PySem.W.codeIn K cd_first_stray "first_stray" = true)
    (k_first_stray : PySem.W.keepIn K (.ref a_first_stray) = true)
    (c_check_columns : PySem.W.codeIn K cd_check_columns "check_columns" = true)
    (k_check_columns : PySem.W.keepIn K (.ref a_check_columns) = true)
    (c_check_rows : PySem.W.codeIn K cd_check_rows "_check_rows" = true)
    (k_check_rows : PySem.W.keepIn K (.ref a_check_rows) = true)
    (c_Table_in_order : PySem.W.codeIn K cd_Table_in_order "Table._in_order" = true)
    (k_Table_in_order : PySem.W.keepIn K (.ref a_Table_in_order) = true)
    (c_Table_init : PySem.W.codeIn K cd_Table_init "Table.__init__" = true)
    (k_Table_init : PySem.W.keepIn K (.ref a_Table_init) = true)
    (lt_Table_init : K.lookup TD_Table_init = some ⟨.type "tuple", to_Table_init, .seq #[.ref e_Table_init] tn_Table_init, ts_Table_init⟩)
    (c_Table_eq : PySem.W.codeIn K cd_Table_eq "Table.__eq__" = true)
    (k_Table_eq : PySem.W.keepIn K (.ref a_Table_eq) = true)
    (c_table_text : PySem.W.codeIn K cd_table_text "table_text" = true)
    (k_table_text : PySem.W.keepIn K (.ref a_table_text) = true)
    (c_is_columns_line : PySem.W.codeIn K cd_is_columns_line "is_columns_line" = true)
    (k_is_columns_line : PySem.W.keepIn K (.ref a_is_columns_line) = true)
    (c_is_row_line : PySem.W.codeIn K cd_is_row_line "_is_row_line" = true)
    (k_is_row_line : PySem.W.keepIn K (.ref a_is_row_line) = true)
    (c_read_table : PySem.W.codeIn K cd_read_table "read_table" = true)
    (k_read_table : PySem.W.keepIn K (.ref a_read_table) = true)
    (c_law_cell : PySem.W.codeIn K cd_law_cell "_law_cell" = true)
    (k_law_cell : PySem.W.keepIn K (.ref a_law_cell) = true)
    (c_law_pool : PySem.W.codeIn K cd_law_pool "_law_pool" = true)
    (k_law_pool : PySem.W.keepIn K (.ref a_law_pool) = true)
    (c_law_word : PySem.W.codeIn K cd_law_word "_law_word" = true)
    (k_law_word : PySem.W.keepIn K (.ref a_law_word) = true)
    (c_law_new : PySem.W.codeIn K cd_law_new "_law_new" = true)
    (k_law_new : PySem.W.keepIn K (.ref a_law_new) = true)
    (c_law_marks : PySem.W.codeIn K cd_law_marks "_law_marks" = true)
    (k_law_marks : PySem.W.keepIn K (.ref a_law_marks) = true)
    (c_law_drawn : PySem.W.codeIn K cd_law_drawn "_law_drawn" = true)
    (k_law_drawn : PySem.W.keepIn K (.ref a_law_drawn) = true)
    (c_law_written : PySem.W.codeIn K cd_law_written "_law_written" = true)
    (k_law_written : PySem.W.keepIn K (.ref a_law_written) = true)
    (c_law_sign : PySem.W.codeIn K cd_law_sign "_law_sign" = true)
    (k_law_sign : PySem.W.keepIn K (.ref a_law_sign) = true)
    (c_law_lines_edited : PySem.W.codeIn K cd_law_lines_edited "_law_lines_edited" = true)
    (k_law_lines_edited : PySem.W.keepIn K (.ref a_law_lines_edited) = true)
    (c_law_edited : PySem.W.codeIn K cd_law_edited "_law_edited" = true)
    (k_law_edited : PySem.W.keepIn K (.ref a_law_edited) = true)
    (c_law_different : PySem.W.codeIn K cd_law_different "_law_different" = true)
    (k_law_different : PySem.W.keepIn K (.ref a_law_different) = true)
    (c_law_described : PySem.W.codeIn K cd_law_described "_law_described" = true)
    (k_law_described : PySem.W.keepIn K (.ref a_law_described) = true)
    (c_law_is : PySem.W.codeIn K cd_law_is "_law_is" = true)
    (k_law_is : PySem.W.keepIn K (.ref a_law_is) = true)
    (c_law_answers : PySem.W.codeIn K cd_law_answers "_law_answers" = true)
    (k_law_answers : PySem.W.keepIn K (.ref a_law_answers) = true)
    (c_law_reads : PySem.W.codeIn K cd_law_reads "_law_reads" = true)
    (k_law_reads : PySem.W.keepIn K (.ref a_law_reads) = true)
    (c_law : PySem.W.codeIn K cd_law "law" = true)
    (k_law : PySem.W.keepIn K (.ref a_law) = true)
    (pgcl_Table : PySem.W.plainGet K C_Table Str.empty = true)
    (hdcl_Table : PySem.W.hasDictIn K C_Table = true)
    (pocl_Table : PySem.W.plainOver K C_Table = true)
    (sacl_Table : PySem.W.findIn K (.ref C_Table) "__setattr__" = some (some (.builtin "object.__setattr__")))
    (xsf_Table : PySem.W.selfFirst K C_Table = true)
    (kmk_Table : PySem.W.makesIn K C_Table = true)
    (kkmk_Table : PySem.W.keepIn K (.ref C_Table) = true)
    (xc1_Table : PySem.W.findIn K (.ref C_Table) "__class__" = some (some (.builtin "object.__class__")))
    (xc3_Table : PySem.W.mroIn K C_Table (.type "object") = some true)
    (xn_Table_columns : PySem.W.findIn K (.ref C_Table) "columns" = some none)
    (xn_Table_rows : PySem.W.findIn K (.ref C_Table) "rows" = some none)
    (xc2 : PySem.W.specialIn K (.builtin "object.__class__") "__get__" = some (some (.builtin "getset_descriptor.__get__")))
    (xc4 : PySem.W.takesIn K (.builtin "object.__class__") = some true)
    (xtp_RowsError : PySem.W.typeIn K (.ref C_RowsError) = some (.type "type"))
    (xic_RowsError : PySem.W.isClsIn K C_RowsError = true)
    (xtp_Unknown : PySem.W.typeIn K (.ref C_Unknown) = some (.type "type"))
    (xic_Unknown : PySem.W.isClsIn K C_Unknown = true)
    (xtp_Impossible : PySem.W.typeIn K (.ref C_Impossible) = some (.type "type"))
    (xic_Impossible : PySem.W.isClsIn K C_Impossible = true)
    (xtp_BadText : PySem.W.typeIn K (.ref C_BadText) = some (.type "type"))
    (xic_BadText : PySem.W.isClsIn K C_BadText = true)
    (g1SC_BadText : PySem.W.clsIn K C_BadText = some cd_BadText)
    (g2SC_BadText : PySem.W.mroIn K C_BadText (.ref C_BadText) = some true)
    (ksSC_BadText : PySem.W.ks_superIn K C_BadText C_BadText "__init__" = some (some (.builtin "ValueError.__init__")))
    (g4SC_BadText : PySem.W.nsIn K PySem.cStatics "thirdparty.any" = some none)
    (g5SC_BadText : PySem.W.nsIn K mainGlobals "super" = some none)
    (rfSC_BadText : (l.prog.main.scope.names.lookup ("super" : Str)).isSome = false)
    (kxSC_BadText : PySem.W.excInitIn K C_BadText [.type "ValueError", .type "Exception", .type "BaseException", .type "object"] "ValueError.__new__" = true)
    (g6SC_BadText : PySem.W.findIn K (.ref C_BadText) "__setattr__" = some (some (.builtin "object.__setattr__")))
    (rv_BadText_init : vs_BadText_init[2]? = some (.str fl_BadText_init tf_BadText_init))
    (rg_BadText_init : ((l.prog.main.file : Str) == fl_BadText_init) = true)
    (xti_BadText : PySem.W.typeIn K (.ref a_BadText_init) = some (.type "function"))
    (xxn_BadText_line : PySem.W.findIn K (.ref C_BadText) "line" = some none)
    (xk_BadText : PySem.W.keepIn K (.ref C_BadText) = true)
    (xbp_BadText : PySem.W.subIn K (.ref C_BadText) (.type "BaseException") = some true)
    (xsv_BadText : PySem.W.subIn K (.ref C_BadText) (.type "ValueError") = some true)
    (xss_BadText : PySem.W.subIn K (.ref C_BadText) (.ref C_BadText) = some true)
    (xsu_BadText_RowsError : PySem.W.subIn K (.ref C_BadText) (.ref C_RowsError) = some true)
    (xsu_BadText_Unknown : PySem.W.subIn K (.ref C_BadText) (.ref C_Unknown) = some false)
    (xsu_BadText_Impossible : PySem.W.subIn K (.ref C_BadText) (.ref C_Impossible) = some false)
    (xe1_BadText : PySem.W.findIn K (.ref C_BadText) "__getattribute__" = some (some (.builtin "BaseException.__getattribute__")))
    (xe2_BadText : PySem.W.findIn K (.ref C_BadText) "__getattr__" = some none)
    (xe3_BadText : PySem.W.hasDictIn K C_BadText = true)
    (xe4_BadText : PySem.W.findIn K (.ref C_BadText) "__class__" = some (some (.builtin "object.__class__")))
    (xe5_BadText : PySem.W.mroIn K C_BadText (.type "object") = some true)
    (r1cr_Table : PySem.W.readsIn K C_Table (.type "type") = true)
    (r2cr_Table : PySem.W.specialIn K (.ref C_Table) "__getattribute__" = some (some (.builtin "type.__getattribute__")))
    (xcv_Table_MOST_COLUMNS : PySem.W.findCls K (.ref C_Table) (.type "type") "MOST_COLUMNS" = some (.val (.int 12 tk_Table_MOST_COLUMNS)))
    (xcv_Table_MOST_ROWS : PySem.W.findCls K (.ref C_Table) (.type "type") "MOST_ROWS" = some (.val (.int 48 tk_Table_MOST_ROWS)))
    (xn_abs : PySem.W.nsIn K mainGlobals "abs" = some none)
    (xn_int : PySem.W.nsIn K mainGlobals "int" = some none)
    (xn_isinstance : PySem.W.nsIn K mainGlobals "isinstance" = some none)
    (xn_range : PySem.W.nsIn K mainGlobals "range" = some none)
    (xn_len : PySem.W.nsIn K mainGlobals "len" = some none)
    (xn_str : PySem.W.nsIn K mainGlobals "str" = some none)
    (xn_tuple : PySem.W.nsIn K mainGlobals "tuple" = some none)
    (xn_list : PySem.W.nsIn K mainGlobals "list" = some none)
    (xn_ValueError : PySem.W.nsIn K mainGlobals "ValueError" = some none)
    (xn_all : PySem.W.nsIn K mainGlobals "all" = some none)
    (xn_enumerate : PySem.W.nsIn K mainGlobals "enumerate" = some none)
    (xn_bool : PySem.W.nsIn K mainGlobals "bool" = some none)
    : ∃ fd : FuncData, (∀ (s : Shared) (v : Value), BindsTo s fd ⟨[v], []⟩ [("script", v)]) ∧ ∀ base : Heap, K.In base → base.Ns mainGlobals mg → FnOk l.prog w K mg base CX0 15 fa fd ["script"] (spLaw K) := by
  have e := hfa.symm.trans (PySem.W.mg_of X G xmg_law)
  cases e
  have T : Txt l.prog K mg ⟨C_Table, C_RowsError, C_Unknown, C_Impossible, C_BadText, a_BadText_init, _, a_is_name, _, a_first_bad_name, _, a_first_stray, _, a_check_columns, _, a_check_rows, _, a_Table_in_order, _, a_Table_init, _, a_Table_eq, _, a_table_text, _, a_is_columns_line, _, a_is_row_line, _, a_read_table, _, a_law_cell, _, a_law_pool, _, a_law_word, _, a_law_new, _, a_law_marks, _, a_law_drawn, _, a_law_written, _, a_law_sign, _, a_law_lines_edited, _, a_law_edited, _, a_law_different, _, a_law_described, _, a_law_is, _, a_law_answers, _, a_law_reads, _, fa, _, e_Table_init⟩ := {
    mg_Table := PySem.W.mg_of X G xmg_Table
    cl_Table := ⟨pgcl_Table, hdcl_Table, pocl_Table, sacl_Table⟩
    sf_Table := xsf_Table
    mk_Table := ⟨kmk_Table, am_Table_init, if_Table_init, kkmk_Table⟩
    c1_Table := xc1_Table
    c3_Table := xc3_Table
    n_Table_columns := xn_Table_columns
    n_Table_rows := xn_Table_rows
    c2 := xc2
    c4 := xc4
    mg_RowsError := PySem.W.mg_of X G xmg_RowsError
    tp_RowsError := xtp_RowsError
    ic_RowsError := xic_RowsError
    mg_Unknown := PySem.W.mg_of X G xmg_Unknown
    tp_Unknown := xtp_Unknown
    ic_Unknown := xic_Unknown
    mg_Impossible := PySem.W.mg_of X G xmg_Impossible
    tp_Impossible := xtp_Impossible
    ic_Impossible := xic_Impossible
    mg_BadText := PySem.W.mg_of X G xmg_BadText
    tp_BadText := xtp_BadText
    ic_BadText := xic_BadText
    SC_BadText := ⟨⟨_, g1SC_BadText⟩, g2SC_BadText, ksSC_BadText, g4SC_BadText, xsv_BadText, PySem.W.mg_none_of X G g5SC_BadText, rfSC_BadText, oex_of kxSC_BadText xe3_BadText g6SC_BadText xbp_BadText xtp_BadText xk_BadText⟩
    SF_BadText := ⟨⟨_, _, _, _, _, _, _, _, _, _, rfl, l_BadText_init, c_BadText_init, ⟨_, _, _, _, _, _, lx_BadText_init, rv_BadText_init, rg_BadText_init⟩, _, _, _, lq_BadText_init⟩⟩
    ii_BadText := am_BadText_init
    ti_BadText := xti_BadText
    b_BadText_init := fun s us _ hl => by rw [List.append_nil] at hl ⊢; exact .of_eq (match us, hl with | [_, _], _ => rfl)
    xn_BadText_line := xxn_BadText_line
    xf_BadText := ⟨xe1_BadText, xe2_BadText, xbp_BadText, xe3_BadText⟩
    ec_BadText := ⟨xe1_BadText, xe2_BadText, xbp_BadText, xe3_BadText, xe4_BadText, xc2, xc4, xe5_BadText⟩
    k_BadText := xk_BadText
    bp_BadText := xbp_BadText
    sv_BadText := xsv_BadText
    ss_BadText := xss_BadText
    su_BadText_RowsError := xsu_BadText_RowsError
    su_BadText_Unknown := xsu_BadText_Unknown
    su_BadText_Impossible := xsu_BadText_Impossible
    e1_BadText := xe1_BadText
    e2_BadText := xe2_BadText
    e3_BadText := xe3_BadText
    e4_BadText := xe4_BadText
    e5_BadText := xe5_BadText
    mg_LONGEST_NAME := ⟨_, PySem.W.mg_of X G xmg_LONGEST_NAME⟩
    cr_Table := ⟨r1cr_Table, r2cr_Table⟩
    cv_Table_MOST_COLUMNS := ⟨_, ⟨xcv_Table_MOST_COLUMNS, ⟨_, rfl⟩⟩⟩
    cv_Table_MOST_ROWS := ⟨_, ⟨xcv_Table_MOST_ROWS, ⟨_, rfl⟩⟩⟩
    n_abs := PySem.W.mg_none_of X G xn_abs
    n_int := PySem.W.mg_none_of X G xn_int
    n_isinstance := PySem.W.mg_none_of X G xn_isinstance
    n_range := PySem.W.mg_none_of X G xn_range
    n_len := PySem.W.mg_none_of X G xn_len
    n_str := PySem.W.mg_none_of X G xn_str
    n_tuple := PySem.W.mg_none_of X G xn_tuple
    n_list := PySem.W.mg_none_of X G xn_list
    n_ValueError := PySem.W.mg_none_of X G xn_ValueError
    n_all := PySem.W.mg_none_of X G xn_all
    n_enumerate := PySem.W.mg_none_of X G xn_enumerate
    n_bool := PySem.W.mg_none_of X G xn_bool
    F_is_name := fun_mk (st := s_is_name) l_is_name c_is_name k_is_name
    b_is_name := (fun_mk (st := s_is_name) l_is_name c_is_name k_is_name).binds fun _ _ _ _ _ _ us hl => match us, hl with | [_], _ => rfl
    mg_is_name := PySem.W.mg_of X G xmg_is_name
    F_first_bad_name := fun_mk (st := s_first_bad_name) l_first_bad_name c_first_bad_name k_first_bad_name
    b_first_bad_name := (fun_mk (st := s_first_bad_name) l_first_bad_name c_first_bad_name k_first_bad_name).binds fun _ _ _ _ _ _ us hl => match us, hl with | [_], _ => rfl
    mg_first_bad_name := PySem.W.mg_of X G xmg_first_bad_name
    F_first_stray := fun_mk (st := s_first_stray) l_first_stray c_first_stray k_first_stray
    b_first_stray := (fun_mk (st := s_first_stray) l_first_stray c_first_stray k_first_stray).binds fun _ _ _ _ _ _ us hl => match us, hl with | [_, _], _ => rfl
    mg_first_stray := PySem.W.mg_of X G xmg_first_stray
    F_check_columns := fun_mk (st := s_check_columns) l_check_columns c_check_columns k_check_columns
    b_check_columns := (fun_mk (st := s_check_columns) l_check_columns c_check_columns k_check_columns).binds fun _ _ _ _ _ _ us hl => match us, hl with | [_], _ => rfl
    mg_check_columns := PySem.W.mg_of X G xmg_check_columns
    F_check_rows := fun_mk (st := s_check_rows) l_check_rows c_check_rows k_check_rows
    b_check_rows := (fun_mk (st := s_check_rows) l_check_rows c_check_rows k_check_rows).binds fun _ _ _ _ _ _ us hl => match us, hl with | [_, _], _ => rfl
    mg_check_rows := PySem.W.mg_of X G xmg_check_rows
    F_Table_in_order := fun_mk (st := s_Table_in_order) l_Table_in_order c_Table_in_order k_Table_in_order
    b_Table_in_order := (fun_mk (st := s_Table_in_order) l_Table_in_order c_Table_in_order k_Table_in_order).binds fun _ _ _ _ _ _ us hl => match us, hl with | [_, _], _ => rfl
    m_Table_in_order := ⟨am_Table_in_order, if_Table_in_order, k_Table_in_order⟩
    F_Table_init := ⟨⟨_, _, _, _, _, _, _, _, _, _, rfl, l_Table_init, c_Table_init, .inr ⟨by simp, TD_Table_init, _, [.ref e_Table_init], _, rfl, lt_Table_init, rfl, .cons rfl .nil⟩, .inl rfl⟩, k_Table_init⟩
    m_Table_init := ⟨am_Table_init, if_Table_init, k_Table_init⟩
    F_Table_eq := fun_mk (st := s_Table_eq) l_Table_eq c_Table_eq k_Table_eq
    b_Table_eq := (fun_mk (st := s_Table_eq) l_Table_eq c_Table_eq k_Table_eq).binds fun _ _ _ _ _ _ us hl => match us, hl with | [_, _], _ => rfl
    m_Table_eq := ⟨am_Table_eq, if_Table_eq, k_Table_eq⟩
    F_table_text := fun_mk (st := s_table_text) l_table_text c_table_text k_table_text
    b_table_text := (fun_mk (st := s_table_text) l_table_text c_table_text k_table_text).binds fun _ _ _ _ _ _ us hl => match us, hl with | [_], _ => rfl
    mg_table_text := PySem.W.mg_of X G xmg_table_text
    F_is_columns_line := fun_mk (st := s_is_columns_line) l_is_columns_line c_is_columns_line k_is_columns_line
    b_is_columns_line := (fun_mk (st := s_is_columns_line) l_is_columns_line c_is_columns_line k_is_columns_line).binds fun _ _ _ _ _ _ us hl => match us, hl with | [_], _ => rfl
    mg_is_columns_line := PySem.W.mg_of X G xmg_is_columns_line
    F_is_row_line := fun_mk (st := s_is_row_line) l_is_row_line c_is_row_line k_is_row_line
    b_is_row_line := (fun_mk (st := s_is_row_line) l_is_row_line c_is_row_line k_is_row_line).binds fun _ _ _ _ _ _ us hl => match us, hl with | [_, _], _ => rfl
    mg_is_row_line := PySem.W.mg_of X G xmg_is_row_line
    F_read_table := fun_mk (st := s_read_table) l_read_table c_read_table k_read_table
    b_read_table := (fun_mk (st := s_read_table) l_read_table c_read_table k_read_table).binds fun _ _ _ _ _ _ us hl => match us, hl with | [_], _ => rfl
    mg_read_table := PySem.W.mg_of X G xmg_read_table
    F_law_cell := fun_mk (st := s_law_cell) l_law_cell c_law_cell k_law_cell
    b_law_cell := (fun_mk (st := s_law_cell) l_law_cell c_law_cell k_law_cell).binds fun _ _ _ _ _ _ us hl => match us, hl with | [_, _], _ => rfl
    mg_law_cell := PySem.W.mg_of X G xmg_law_cell
    F_law_pool := fun_mk (st := s_law_pool) l_law_pool c_law_pool k_law_pool
    b_law_pool := (fun_mk (st := s_law_pool) l_law_pool c_law_pool k_law_pool).binds fun _ _ _ _ _ _ us hl => match us, hl with | [_, _, _], _ => rfl
    mg_law_pool := PySem.W.mg_of X G xmg_law_pool
    F_law_word := fun_mk (st := s_law_word) l_law_word c_law_word k_law_word
    b_law_word := (fun_mk (st := s_law_word) l_law_word c_law_word k_law_word).binds fun _ _ _ _ _ _ us hl => match us, hl with | [_, _], _ => rfl
    mg_law_word := PySem.W.mg_of X G xmg_law_word
    F_law_new := fun_mk (st := s_law_new) l_law_new c_law_new k_law_new
    b_law_new := (fun_mk (st := s_law_new) l_law_new c_law_new k_law_new).binds fun _ _ _ _ _ _ us hl => match us, hl with | [_, _], _ => rfl
    mg_law_new := PySem.W.mg_of X G xmg_law_new
    F_law_marks := fun_mk (st := s_law_marks) l_law_marks c_law_marks k_law_marks
    b_law_marks := (fun_mk (st := s_law_marks) l_law_marks c_law_marks k_law_marks).binds fun _ _ _ _ _ _ us hl => match us, hl with | [_, _, _], _ => rfl
    mg_law_marks := PySem.W.mg_of X G xmg_law_marks
    F_law_drawn := fun_mk (st := s_law_drawn) l_law_drawn c_law_drawn k_law_drawn
    b_law_drawn := (fun_mk (st := s_law_drawn) l_law_drawn c_law_drawn k_law_drawn).binds fun _ _ _ _ _ _ us hl => match us, hl with | [_], _ => rfl
    mg_law_drawn := PySem.W.mg_of X G xmg_law_drawn
    F_law_written := fun_mk (st := s_law_written) l_law_written c_law_written k_law_written
    b_law_written := (fun_mk (st := s_law_written) l_law_written c_law_written k_law_written).binds fun _ _ _ _ _ _ us hl => match us, hl with | [_, _], _ => rfl
    mg_law_written := PySem.W.mg_of X G xmg_law_written
    F_law_sign := fun_mk (st := s_law_sign) l_law_sign c_law_sign k_law_sign
    b_law_sign := (fun_mk (st := s_law_sign) l_law_sign c_law_sign k_law_sign).binds fun _ _ _ _ _ _ us hl => match us, hl with | [_], _ => rfl
    mg_law_sign := PySem.W.mg_of X G xmg_law_sign
    F_law_lines_edited := fun_mk (st := s_law_lines_edited) l_law_lines_edited c_law_lines_edited k_law_lines_edited
    b_law_lines_edited := (fun_mk (st := s_law_lines_edited) l_law_lines_edited c_law_lines_edited k_law_lines_edited).binds fun _ _ _ _ _ _ us hl => match us, hl with | [_, _, _, _], _ => rfl
    mg_law_lines_edited := PySem.W.mg_of X G xmg_law_lines_edited
    F_law_edited := fun_mk (st := s_law_edited) l_law_edited c_law_edited k_law_edited
    b_law_edited := (fun_mk (st := s_law_edited) l_law_edited c_law_edited k_law_edited).binds fun _ _ _ _ _ _ us hl => match us, hl with | [_, _, _], _ => rfl
    mg_law_edited := PySem.W.mg_of X G xmg_law_edited
    F_law_different := fun_mk (st := s_law_different) l_law_different c_law_different k_law_different
    b_law_different := (fun_mk (st := s_law_different) l_law_different c_law_different k_law_different).binds fun _ _ _ _ _ _ us hl => match us, hl with | [_, _], _ => rfl
    mg_law_different := PySem.W.mg_of X G xmg_law_different
    F_law_described := fun_mk (st := s_law_described) l_law_described c_law_described k_law_described
    b_law_described := (fun_mk (st := s_law_described) l_law_described c_law_described k_law_described).binds fun _ _ _ _ _ _ us hl => match us, hl with | [_], _ => rfl
    mg_law_described := PySem.W.mg_of X G xmg_law_described
    F_law_is := fun_mk (st := s_law_is) l_law_is c_law_is k_law_is
    b_law_is := (fun_mk (st := s_law_is) l_law_is c_law_is k_law_is).binds fun _ _ _ _ _ _ us hl => match us, hl with | [_, _, _], _ => rfl
    mg_law_is := PySem.W.mg_of X G xmg_law_is
    F_law_answers := fun_mk (st := s_law_answers) l_law_answers c_law_answers k_law_answers
    b_law_answers := (fun_mk (st := s_law_answers) l_law_answers c_law_answers k_law_answers).binds fun _ _ _ _ _ _ us hl => match us, hl with | [_], _ => rfl
    mg_law_answers := PySem.W.mg_of X G xmg_law_answers
    F_law_reads := fun_mk (st := s_law_reads) l_law_reads c_law_reads k_law_reads
    b_law_reads := (fun_mk (st := s_law_reads) l_law_reads c_law_reads k_law_reads).binds fun _ _ _ _ _ _ us hl => match us, hl with | [_, _, _], _ => rfl
    mg_law_reads := PySem.W.mg_of X G xmg_law_reads
    F_law := fun_mk (st := s_law) l_law c_law k_law
    b_law := (fun_mk (st := s_law) l_law c_law k_law).binds fun _ _ _ _ _ _ us hl => match us, hl with | [_], _ => rfl
    mg_law := PySem.W.mg_of X G xmg_law
  }
  exact ⟨_, fun s v => .of_eq rfl, fun base _ _ => ok_law T⟩
theorem walk {l : PySem.W.OpenLaw} {q : Program} {loose : List Str} {XP : (Str → Option Value) → Heap → Prop} {YP : World → Heap → Prop} {d : DefRec} {K : Params → PySem.W.Frag} (hn : l.most = some 63) (hdf : d.params.defaults = [])
    (hY : ∀ (w : World) (h : Heap), YP w h → (K w.params).In h)
    (F : ∀ (w : World) (mg : Str → Option Value) (fa : Addr) (h : Heap), (K w.params).In h → h.Ns mainGlobals mg → mg d.name = some (.ref fa) →
      ∃ fd : FuncData, (∀ (s : Shared) (u : Value), BindsTo s fd ⟨[u], []⟩ [("script", u)]) ∧ ∀ base : Heap, (K w.params).In base → base.Ns mainGlobals mg → FnOk l.prog w (K w.params) mg base CX0 15 fa fd ["script"] (spLaw (K w.params))) :
    PySem.W.WalkO q loose XP YP l.row.toRowW d [] (fun f vs => PySem.call f vs) :=
  L2.walk_of (n := 63) (k := 15) (x := "script") (CX := fun _ => CX0) (sp := fun w => spLaw (K w.params)) hn (by decide) hdf ⟨rfl, by decide, by decide⟩ hY F (fun _ _ a ns hl _ hS => ⟨a, ns, rfl, hS, hl, fun _ => rfl⟩) fun _ _ _ _ _ z => z
end My
open PySem PySem.W PyProof.Rows
set_option maxRecDepth 100000 in
set_option maxHeartbeats 0 in
theorem PySem.Challenge.cw_unbrokenrows_k04_table_texts_holds : PySem.Challenge.rw_unbrokenrows_k04_table_texts.Holds := by
  w_on; o_law; k_head; (case hw => w_witness2)
  k_fill
  refine My.walk (l := PySem.Challenge.rw_unbrokenrows_k04_table_texts) rfl rfl (fun w h Y => PySem.W.kIn_of Y) ?F
  case F =>
    intro w mg fa h KX G hmg
    refine' My.all_mk KX G hmg ?xmg_Table ?xmg_RowsError ?xmg_Unknown ?xmg_Impossible ?xmg_BadText ?am_BadText_init ?xmg_LONGEST_NAME ?xmg_is_name ?xmg_first_bad_name ?xmg_first_stray ?xmg_check_columns ?xmg_check_rows ?am_Table_in_order ?am_Table_init ?am_Table_eq ?xmg_table_text ?xmg_is_columns_line ?xmg_is_row_line ?xmg_read_table ?xmg_law_cell ?xmg_law_pool ?xmg_law_word ?xmg_law_new ?xmg_law_marks ?xmg_law_drawn ?xmg_law_written ?xmg_law_sign ?xmg_law_lines_edited ?xmg_law_edited ?xmg_law_different ?xmg_law_described ?xmg_law_is ?xmg_law_answers ?xmg_law_reads ?xmg_law ?if_Table_in_order ?if_Table_init ?if_Table_eq ?l_BadText_init ?l_is_name ?l_first_bad_name ?l_first_stray ?l_check_columns ?l_check_rows ?l_Table_in_order ?l_Table_init ?l_Table_eq ?l_table_text ?l_is_columns_line ?l_is_row_line ?l_read_table ?l_law_cell ?l_law_pool ?l_law_word ?l_law_new ?l_law_marks ?l_law_drawn ?l_law_written ?l_law_sign ?l_law_lines_edited ?l_law_edited ?l_law_different ?l_law_described ?l_law_is ?l_law_answers ?l_law_reads ?l_law ?lx_BadText_init ?lq_BadText_init ?c_BadText_init ?c_is_name ?k_is_name ?c_first_bad_name ?k_first_bad_name ?c_first_stray ?k_first_stray ?c_check_columns ?k_check_columns ?c_check_rows ?k_check_rows ?c_Table_in_order ?k_Table_in_order ?c_Table_init ?k_Table_init ?lt_Table_init ?c_Table_eq ?k_Table_eq ?c_table_text ?k_table_text ?c_is_columns_line ?k_is_columns_line ?c_is_row_line ?k_is_row_line ?c_read_table ?k_read_table ?c_law_cell ?k_law_cell ?c_law_pool ?k_law_pool ?c_law_word ?k_law_word ?c_law_new ?k_law_new ?c_law_marks ?k_law_marks ?c_law_drawn ?k_law_drawn ?c_law_written ?k_law_written ?c_law_sign ?k_law_sign ?c_law_lines_edited ?k_law_lines_edited ?c_law_edited ?k_law_edited ?c_law_different ?k_law_different ?c_law_described ?k_law_described ?c_law_is ?k_law_is ?c_law_answers ?k_law_answers ?c_law_reads ?k_law_reads ?c_law ?k_law ?pgcl_Table ?hdcl_Table ?pocl_Table ?sacl_Table ?xsf_Table ?kmk_Table ?kkmk_Table ?xc1_Table ?xc3_Table ?xn_Table_columns ?xn_Table_rows ?xc2 ?xc4 ?xtp_RowsError ?xic_RowsError ?xtp_Unknown ?xic_Unknown ?xtp_Impossible ?xic_Impossible ?xtp_BadText ?xic_BadText ?g1SC_BadText ?g2SC_BadText ?ksSC_BadText ?g4SC_BadText ?g5SC_BadText ?rfSC_BadText ?kxSC_BadText ?g6SC_BadText ?rv_BadText_init ?rg_BadText_init ?xti_BadText ?xxn_BadText_line ?xk_BadText ?xbp_BadText ?xsv_BadText ?xss_BadText ?xsu_BadText_RowsError ?xsu_BadText_Unknown ?xsu_BadText_Impossible ?xe1_BadText ?xe2_BadText ?xe3_BadText ?xe4_BadText ?xe5_BadText ?r1cr_Table ?r2cr_Table ?xcv_Table_MOST_COLUMNS ?xcv_Table_MOST_ROWS ?xn_abs ?xn_int ?xn_isinstance ?xn_range ?xn_len ?xn_str ?xn_tuple ?xn_list ?xn_ValueError ?xn_all ?xn_enumerate ?xn_bool
    (case xmg_Table => k_is)
    (case xmg_RowsError => k_is)
    (case xmg_Unknown => k_is)
    (case xmg_Impossible => k_is)
    (case xmg_BadText => k_is)
    (case am_BadText_init => k_is)
    (case xmg_LONGEST_NAME => k_is)
    (case xmg_is_name => k_is)
    (case xmg_first_bad_name => k_is)
    (case xmg_first_stray => k_is)
    (case xmg_check_columns => k_is)
    (case xmg_check_rows => k_is)
    (case am_Table_in_order => k_is)
    (case am_Table_init => k_is)
    (case am_Table_eq => k_is)
    (case xmg_table_text => k_is)
    (case xmg_is_columns_line => k_is)
    (case xmg_is_row_line => k_is)
    (case xmg_read_table => k_is)
    (case xmg_law_cell => k_is)
    (case xmg_law_pool => k_is)
    (case xmg_law_word => k_is)
    (case xmg_law_new => k_is)
    (case xmg_law_marks => k_is)
    (case xmg_law_drawn => k_is)
    (case xmg_law_written => k_is)
    (case xmg_law_sign => k_is)
    (case xmg_law_lines_edited => k_is)
    (case xmg_law_edited => k_is)
    (case xmg_law_different => k_is)
    (case xmg_law_described => k_is)
    (case xmg_law_is => k_is)
    (case xmg_law_answers => k_is)
    (case xmg_law_reads => k_is)
    (case xmg_law => k_is)
    (case if_Table_in_order => k_is)
    (case if_Table_init => k_is)
    (case if_Table_eq => k_is)
    (case l_BadText_init => k_is)
    (case l_is_name => k_is)
    (case l_first_bad_name => k_is)
    (case l_first_stray => k_is)
    (case l_check_columns => k_is)
    (case l_check_rows => k_is)
    (case l_Table_in_order => k_is)
    (case l_Table_init => k_is)
    (case l_Table_eq => k_is)
    (case l_table_text => k_is)
    (case l_is_columns_line => k_is)
    (case l_is_row_line => k_is)
    (case l_read_table => k_is)
    (case l_law_cell => k_is)
    (case l_law_pool => k_is)
    (case l_law_word => k_is)
    (case l_law_new => k_is)
    (case l_law_marks => k_is)
    (case l_law_drawn => k_is)
    (case l_law_written => k_is)
    (case l_law_sign => k_is)
    (case l_law_lines_edited => k_is)
    (case l_law_edited => k_is)
    (case l_law_different => k_is)
    (case l_law_described => k_is)
    (case l_law_is => k_is)
    (case l_law_answers => k_is)
    (case l_law_reads => k_is)
    (case l_law => k_is)
    (case lx_BadText_init => k_is)
    (case lq_BadText_init => k_is)
    (case c_BadText_init => k_is)
    (case c_is_name => k_is)
    (case k_is_name => k_is)
    (case c_first_bad_name => k_is)
    (case k_first_bad_name => k_is)
    (case c_first_stray => k_is)
    (case k_first_stray => k_is)
    (case c_check_columns => k_is)
    (case k_check_columns => k_is)
    (case c_check_rows => k_is)
    (case k_check_rows => k_is)
    (case c_Table_in_order => k_is)
    (case k_Table_in_order => k_is)
    (case c_Table_init => k_is)
    (case k_Table_init => k_is)
    (case lt_Table_init => k_is)
    (case c_Table_eq => k_is)
    (case k_Table_eq => k_is)
    (case c_table_text => k_is)
    (case k_table_text => k_is)
    (case c_is_columns_line => k_is)
    (case k_is_columns_line => k_is)
    (case c_is_row_line => k_is)
    (case k_is_row_line => k_is)
    (case c_read_table => k_is)
    (case k_read_table => k_is)
    (case c_law_cell => k_is)
    (case k_law_cell => k_is)
    (case c_law_pool => k_is)
    (case k_law_pool => k_is)
    (case c_law_word => k_is)
    (case k_law_word => k_is)
    (case c_law_new => k_is)
    (case k_law_new => k_is)
    (case c_law_marks => k_is)
    (case k_law_marks => k_is)
    (case c_law_drawn => k_is)
    (case k_law_drawn => k_is)
    (case c_law_written => k_is)
    (case k_law_written => k_is)
    (case c_law_sign => k_is)
    (case k_law_sign => k_is)
    (case c_law_lines_edited => k_is)
    (case k_law_lines_edited => k_is)
    (case c_law_edited => k_is)
    (case k_law_edited => k_is)
    (case c_law_different => k_is)
    (case k_law_different => k_is)
    (case c_law_described => k_is)
    (case k_law_described => k_is)
    (case c_law_is => k_is)
    (case k_law_is => k_is)
    (case c_law_answers => k_is)
    (case k_law_answers => k_is)
    (case c_law_reads => k_is)
    (case k_law_reads => k_is)
    (case c_law => k_is)
    (case k_law => k_is)
    (case pgcl_Table => k_is)
    (case hdcl_Table => k_is)
    (case pocl_Table => k_is)
    (case sacl_Table => k_is)
    (case xsf_Table => k_is)
    (case kmk_Table => k_is)
    (case kkmk_Table => k_is)
    (case xc1_Table => k_is)
    (case xc3_Table => k_is)
    (case xn_Table_columns => k_is)
    (case xn_Table_rows => k_is)
    (case xc2 => k_is)
    (case xc4 => k_is)
    (case xtp_RowsError => k_is)
    (case xic_RowsError => k_is)
    (case xtp_Unknown => k_is)
    (case xic_Unknown => k_is)
    (case xtp_Impossible => k_is)
    (case xic_Impossible => k_is)
    (case xtp_BadText => k_is)
    (case xic_BadText => k_is)
    (case g1SC_BadText => k_is)
    (case g2SC_BadText => k_is)
    (case ksSC_BadText => ks_is)
    (case g4SC_BadText => k_is)
    (case g5SC_BadText => k_is)
    (case rfSC_BadText => first | rfl | decide +kernel)
    (case kxSC_BadText => kx_is)
    (case g6SC_BadText => k_is)
    (case rv_BadText_init => first | rfl | decide +kernel)
    (case rg_BadText_init => first | rfl | decide +kernel)
    (case xti_BadText => k_is)
    (case xxn_BadText_line => k_is)
    (case xk_BadText => k_is)
    (case xbp_BadText => k_is)
    (case xsv_BadText => k_is)
    (case xss_BadText => k_is)
    (case xsu_BadText_RowsError => k_is)
    (case xsu_BadText_Unknown => k_is)
    (case xsu_BadText_Impossible => k_is)
    (case xe1_BadText => k_is)
    (case xe2_BadText => k_is)
    (case xe3_BadText => k_is)
    (case xe4_BadText => k_is)
    (case xe5_BadText => k_is)
    (case r1cr_Table => k_is)
    (case r2cr_Table => k_is)
    (case xcv_Table_MOST_COLUMNS => k_is)
    (case xcv_Table_MOST_ROWS => k_is)
    (case xn_abs => k_is)
    (case xn_int => k_is)
    (case xn_isinstance => k_is)
    (case xn_range => k_is)
    (case xn_len => k_is)
    (case xn_str => k_is)
    (case xn_tuple => k_is)
    (case xn_list => k_is)
    (case xn_ValueError => k_is)
    (case xn_all => k_is)
    (case xn_enumerate => k_is)
    (case xn_bool => k_is)
#print axioms PySem.Challenge.cw_unbrokenrows_k04_table_texts_holds
