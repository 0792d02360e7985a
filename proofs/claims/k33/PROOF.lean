import PyProof.Rows.All
import Wide.All
import OpenK.AllK
import Wide.FinOn
import HandS.Base
import HandS.Call
import HandS.List
import HandS.OwnEq
import HandS.Ends
import HandS.ClsMeth
import HandS.ExcOwn
import HandS.ExcIs
import HandS.TryOnly
import KE.KExcSuper
import HandS.ExcInit
import HandS.ExcField
import HandS.Words
import HandS.SortKw
import HandS.IterNext
import KE.DataMinMax
import KE.KExcIs
import KE.KExcLine
import HandS.OwnIter
import HandS.Walk
import KE.GoesMore
import HandS.SetFor
import KE.SortData
import HandS.SortRule
import HandS.IsInst
import HandS.WideBits
import HandS.Exc
import HandS.TryMany
import HandS.Style
import HandS.Strs
import HandS.Deep
import PyProof.StrLawsChain
import HandS.Text
import PyProof.Rows.StrCut
import HandS.Wide
import HandS.TupAny
import HandS.Star
import HandS.More
import HandS.Defaults
import HandS.Codes
import HandS.ForMost
import HandS.FStr
import HandS.StrMore
import HandS.Replace
import HandS.WordsExc
import PyProof.StrBlock2
import PySem.Challenge.RW_unbrokenrows_k33_spans_and_checks
set_option Elab.async false
set_option linter.all false
set_option maxRecDepth 100000
namespace My
open PySem PySem.Spec PyProof.Rows L2
section
variable {X : Cx} {CX : CXT} {n : Nat} {f C : Addr} {fd : FuncData} {ps : List Str} {sp : Sp} {E : XK}
/-- a promise, called anywhere in the running body -/
theorem call_at (G0 : FnOk X.prog X.w X.K X.mg X.base CX n f fd ps sp) (hb : Binds X.K fd ps []) (hx : Passes CX X E) {A : Around} (hr : Room n A) (hA : A.frames = X.A.frames)
    {pins : List (Addr × Obj)} {s : Shared} {σ : L2.St} {H : Hp} (I : Inv X pins σ H s) {vs : List V} {us : List Value} (r : Vals vs us) {Q : VK} (h : sp vs H Q E) :
    wpAny (model X.prog X.w) A (call (.ref f) us) (EP X pins σ Q) X.xe s := by
  have e0 : Env0 X.prog X.w X.K X.mg X.base A X.stack s H := by
    have e := I.env0
    exact ⟨by rw [hA]; exact e.frames, e.mod, e.bs, e.bsz, e.funs, e.frf, e.hok, e.bare⟩
  have hl := G0.len _ _ _ _ h
  refine wpAny_call (codeAny_mono (G0.run A X.stack s H ⟨us, []⟩ us vs Q E hr e0 (by
    have := hb s us I.kIn (by rw [List.append_nil, ← r.length]; exact hl)
    simpa using this) r h) fun r s' hq => ?_)
  cases r with
  | error e => exact hx pins σ H s e s' I hq
  | ok fl =>
    cases fl with
    | ret w => exact I.after hq
    | next => exact False.elim hq
    | brk => exact False.elim hq
    | cont => exact False.elim hq
theorem relV_noNI {v : V} {u : Value} (r : RelV v u) : u ≠ .notImplemented := by
  intro e
  subst e
  cases v <;> first | (cases r; done) | (obtain ⟨_, z⟩ := r; cases z)
theorem cmpBack_of {pins : List (Addr × Obj)} {σ : L2.St} {Q : VK} {v : Value} {s : Shared} (h : EP X pins σ Q v s) : PySem.W.CmpBack (EP X pins σ Q) v s := by
  obtain ⟨x, H', I', r, q⟩ := id h
  cases v <;> first | exact h | exact absurd rfl (relV_noNI r)
/-- x op y, both instances of the class at C, by its own method -/
def rOwn2 (C : Addr) (sp : Sp) (E : XK) : R2 := fun x y H Q => ∃ a b dx dy fs gs, x = .ref a ∧ y = .ref b ∧ H a = some (.ins C dx fs) ∧ H b = some (.ins C dy gs) ∧ sp [.ref a, .ref b] H Q E
theorem op_own2 {op : Operator} (G0 : FnOk X.prog X.w X.K X.mg X.base CX n f fd ps sp) (hb : Binds X.K fd ps []) (hx : Passes CX X E) (hr : Room n X.A)
    (hs : PySem.W.findIn X.K (.ref C) (PySem.dunder op.info.2) = some (some (.ref f))) (hf : PySem.W.isFn X.K (.ref f) = true) (hc : PySem.W.selfFirst X.K C = true) : OpR X (binaryOp op) (rOwn2 C sp E) := by
  intro pins s σ H x y v u Q I rx ry h
  obtain ⟨a, b, dx, dy, fs, gs, rfl, rfl, ha, hb', q⟩ := h
  cases rx
  cases ry
  obtain ⟨mA, J, _⟩ := ins_get I.hok ha
  obtain ⟨mB, J', _⟩ := ins_get I.hok hb'
  obtain ⟨od, J, _⟩ := J.look
  obtain ⟨od', J', _⟩ := J'.look
  obtain ⟨m, hF⟩ := I.fr
  refine PySem.W.binop_K hF I.ok.mod.kin J J'.type hc hs hf ?_
  exact wpAny_mono (call_at G0 hb hx hr rfl I (vs := [.ref a, .ref b]) (.cons rfl (.cons rfl .nil)) q) (fun v s' z => cmpBack_of z) fun _ _ z => z
/-- x op k, x such an instance, k a whole number -/
def rOwnI (C : Addr) (sp : Sp) (E : XK) : R2 := fun x y H Q => ∃ a dx fs k, x = .ref a ∧ y = .int k ∧ H a = some (.ins C dx fs) ∧ sp [.ref a, .int k] H Q E
theorem op_ownI {op : Operator} {fo ro rc : Option Value} (G0 : FnOk X.prog X.w X.K X.mg X.base CX n f fd ps sp) (hb : Binds X.K fd ps []) (hx : Passes CX X E) (hr : Room n X.A)
    (hs : PySem.W.findIn X.K (.ref C) (PySem.dunder op.info.2) = some (some (.ref f))) (hf : PySem.W.isFn X.K (.ref f) = true) (hc : PySem.W.selfFirst X.K C = true)
    (hrr : PySem.W.findIn X.K (.ref C) (dunderR op.info.2) = some rc) (hp : rc = none ∨ ∃ g : Addr, rc = some (.ref g))
    (h1 : PySem.W.findIn X.K (.type "int") (PySem.dunder op.info.2) = some fo) (h2 : PySem.W.findIn X.K (.type "int") (dunderR op.info.2) = some ro) (hsub : PySem.W.subIn X.K (.type "int") (.ref C) = some false) :
    OpR X (binaryOp op) (rOwnI C sp E) := by
  intro pins s σ H x y v u Q I rx ry h
  obtain ⟨a, dx, fs, k, rfl, rfl, ha, q⟩ := h
  cases rx
  obtain ⟨t, rfl⟩ := ry
  obtain ⟨mA, J, _⟩ := ins_get I.hok ha
  obtain ⟨od, J, _⟩ := J.look
  obtain ⟨m, hF⟩ := I.fr
  refine PySem.W.ksp_binT (T := "int") hF I.ok.mod.kin J rfl hc hs hf hrr hp h1 h2 hsub ?_
  exact wpAny_mono (call_at G0 hb hx hr rfl I (vs := [.ref a, .int k]) (.cons rfl (.cons ⟨_, rfl⟩ .nil)) q) (fun v s' z => cmpBack_of z) fun _ _ z => z
/-- one-place operators of such an instance -/
def rOwn1 (C : Addr) (sp : Sp) (E : XK) : V → Hp → VK → Prop := fun x H Q => ∃ a dx fs, x = .ref a ∧ H a = some (.ins C dx fs) ∧ sp [.ref a] H Q E
theorem un_own (G0 : FnOk X.prog X.w X.K X.mg X.base CX n f fd ps sp) (hb : Binds X.K fd ps []) (hx : Passes CX X E) (hr : Room n X.A)
    (hs : PySem.W.findIn X.K (.ref C) "__neg__" = some (some (.ref f))) (hf : PySem.W.isFn X.K (.ref f) = true) : UnR X (unaryOp .USub) (rOwn1 C sp E) := by
  intro pins s σ H x v Q I rx h
  obtain ⟨a, dx, fs, rfl, ha, q⟩ := h
  cases rx
  obtain ⟨mA, J, _⟩ := ins_get I.hok ha
  obtain ⟨od, J, _⟩ := J.look
  obtain ⟨m, hF⟩ := I.fr
  exact PySem.W.ksp_neg hF I.ok.mod.kin J hs hf (call_at G0 hb hx hr rfl I (vs := [.ref a]) (.cons rfl .nil) q)
/-- abs(x), bool(x) of such an instance -/
theorem call_absOwn (G0 : FnOk X.prog X.w X.K X.mg X.base CX n f fd ps sp) (hb : Binds X.K fd ps []) (hx : Passes CX X E) (hr : Room (n + 1) X.A)
    (hs : PySem.W.findIn X.K (.ref C) "__abs__" = some (some (.ref f))) (hf : PySem.W.isFn X.K (.ref f) = true) :
    CallR X (.builtin "abs") (fun xs H Q => ∃ a dx fs, xs = [V.ref a] ∧ H a = some (.ins C dx fs) ∧ sp [.ref a] H Q E) := by
  intro pins s σ H xs us Q I r h
  obtain ⟨a, dx, fs, rfl, ha, q⟩ := h
  obtain ⟨u, rfl, r1⟩ := vals1 r
  cases r1
  obtain ⟨mA, J, _⟩ := ins_get I.hok ha
  obtain ⟨od, J, _⟩ := J.look
  refine PySem.Calls.call_function_entry kind_abs plain_abs entry_abs (args_abs _) ?_
  unfold Builtin.«abs»
  refine wpAny_bind (m := oneArg "abs" _) (wpAny_pure ?_)
  refine wpAny_bind (m := callSpecial? (.ref a) (Str.ofString "__abs__")) (PySem.W.special_fn I.kIn J hs (beq_iff_eq.mp hf) ?_)
  refine wpAny_mono (call_at G0 hb hx (A := X.A.in1) hr.in1 rfl I (vs := [.ref a]) (.cons rfl .nil) q) (fun v s' z => ?_) fun _ _ z => z
  exact wpAny_pure ⟨_, rfl, z⟩
theorem meets_bool_own (prog : Program) (w : World) (l : Addr) : MeetsIn prog w (Builtin.«bool.__new__» ⟨[.type "bool", .ref l], []⟩)
    (fun A R s => wpAny (model prog w) A.in1 (truthy (.ref l)) (fun b s' => R (.ok (.ret (.bool b))) s') (fun e s' => R (.error e) s') s) := by
  intro A R s hs
  have f1 := F.conv_sub_bool
  unfold Builtin.«bool.__new__»
  dsimp only
  repeat (any_goals (first | assumption | (with_reducible refine wpAny_mono hs (fun b s' z => ?_) (fun _ _ z => z)) | wp_step))
  all_goals first | exact z | skip
theorem call_boolOwn (G0 : FnOk X.prog X.w X.K X.mg X.base CX n f fd ps sp) (hb : Binds X.K fd ps []) (hx : Passes CX X E) (hr : Room (n + 2) X.A)
    (hs : PySem.W.findIn X.K (.ref C) "__bool__" = some (some (.ref f))) (hf : PySem.W.isFn X.K (.ref f) = true) :
    CallR X (.type "bool") (fun xs H Q => ∃ a dx fs, xs = [V.ref a] ∧ H a = some (.ins C dx fs) ∧ sp [.ref a] H (fun v H' => ∃ k, v = .bl k ∧ Q v H') E) := by
  intro pins s σ H xs us Q I r h
  obtain ⟨a, dx, fs, rfl, ha, q⟩ := h
  obtain ⟨u, rfl, r1⟩ := vals1 r
  cases r1
  obtain ⟨mA, J, _⟩ := ins_get I.hok ha
  obtain ⟨od, J, _⟩ := J.look
  obtain ⟨m, hF⟩ := I.fr
  refine callType_newIn F.called_bool F.newNe_bool (F.typeCall_bool_1 _) (F.newCall_bool_1 _) (fun obj => F.args_object_init_2 obj _) F.entry_bool_new (meets_bool_own X.prog X.w a) ?_
  refine PySem.W.truthy_K hF I.ok.mod.kin J hs hf ?_
  refine wpAny_mono (call_at G0 hb hx (A := X.A.in1.in1) hr.in1.in1 rfl I (vs := [.ref a]) (.cons rfl .nil) q) (fun v s' z => ?_) fun _ _ z => z
  obtain ⟨x, H', I', r, k, rfl, q'⟩ := z
  cases r
  exact ⟨PySem.typeIs_bool _ _, .bl k, H', I', rfl, q'⟩
/-- == of two such instances -/
def rOwnEq (C : Addr) (sp : Sp) (E : XK) : R2 := fun x y H Q => ∃ a b dx dy fs gs, x = .ref a ∧ y = .ref b ∧ H a = some (.ins C dx fs) ∧ H b = some (.ins C dy gs) ∧ sp [.ref a, .ref b] H Q E
theorem op_eqOwn (G0 : FnOk X.prog X.w X.K X.mg X.base CX n f fd ps sp) (hb : Binds X.K fd ps []) (hx : Passes CX X E) (hr : Room n X.A)
    (hs : PySem.W.findIn X.K (.ref C) "__eq__" = some (some (.ref f))) (hf : PySem.W.isFn X.K (.ref f) = true) : OpR X (compareOp .Eq) (rOwnEq C sp E) := by
  intro pins s σ H x y v u Q I rx ry h
  obtain ⟨a, b, dx, dy, fs, gs, rfl, rfl, ha, hb', q⟩ := h
  cases rx
  cases ry
  obtain ⟨mA, J, _⟩ := ins_get I.hok ha
  obtain ⟨mB, J', _⟩ := ins_get I.hok hb'
  obtain ⟨od, J, _⟩ := J.look
  obtain ⟨od', J', _⟩ := J'.look
  obtain ⟨m, hF⟩ := I.fr
  show wpAny (model X.prog X.w) X.A (richCompare .Eq (.ref a) (.ref b)) (EP X pins σ Q) X.xe s
  refine PySem.W.cmp_K (op := .Eq) (tb := .ref C) hr.units0 hF I.ok.mod.kin J J'.type (by simp [PySem.W.notFirst]) hs hf ?_
  exact wpAny_mono (call_at G0 hb hx hr rfl I (vs := [.ref a, .ref b]) (.cons rfl (.cons rfl .nil)) q) (fun v s' z => cmpBack_of z) fun _ _ z => z
end
end My
set_option maxRecDepth 100000
namespace My
open PySem PySem.Spec PyProof.Rows L2
open ClX (CRead)
section
variable {X : Cx} {CX : CXT} {n k : Nat} {f C : Addr} {fd : FuncData} {ps : List Str} {sp : Sp} {E : XK}
/-- str(x) of an instance with its own __str__ -/
theorem call_strOwn (G0 : FnOk X.prog X.w X.K X.mg X.base CX n f fd ps sp) (hb : Binds X.K fd ps []) (hx : Passes CX X E) (hr : Room (n + 2) X.A)
    (hs : PySem.W.findIn X.K (.ref C) "__str__" = some (some (.ref f))) (hf : PySem.W.isFn X.K (.ref f) = true) :
    CallR X (.type "str") (fun xs H Q => ∃ a dx fs, xs = [V.ref a] ∧ H a = some (.ins C dx fs) ∧ sp [.ref a] H (fun v H' => ∃ z, v = .str z ∧ Q v H') E) := by
  intro pins s σ H xs us Q I r h
  obtain ⟨a, dx, fs, rfl, ha, q⟩ := h
  obtain ⟨u, rfl, r1⟩ := vals1 r
  cases r1
  obtain ⟨mA, J, _⟩ := ins_get I.hok ha
  obtain ⟨od, J, _⟩ := J.look
  refine PySem.W.kso_call (hr.in1.in1.units0) I.kIn J hs hf ?_
  refine wpAny_mono (call_at G0 hb hx (A := X.A.in1.in1) hr.in1.in1 rfl I (vs := [.ref a]) (.cons rfl .nil) q) (fun v s' z => ?_) fun _ _ z => z
  obtain ⟨x, H', I', r, y, rfl, q'⟩ := z
  obtain ⟨t, rfl⟩ := r
  exact ⟨.str y, H', I', ⟨_, rfl⟩, q'⟩
/-- C.m is a staticmethod: its record at p, its def at g -/
structure SMet (K : PySem.W.Frag) (C : Addr) (mc : Value) (m : Str) (p g : Addr) : Prop where
  at_ : PySem.W.findCls K (.ref C) mc m = some (.get (.builtin "staticmethod.__get__") (.ref p) .none (.ref C))
  rc : ∃ rest, PySem.W.recIn K p "staticmethod" = some (.ref g :: rest)
  kp : PySem.W.keepIn K (.ref g) = true
theorem getmethsm_ok {pins : List (Addr × Obj)} {σ : L2.St} {H : Hp} {s : Shared} {p g : Addr} {mc : Value} {m : Str} {A : Around} {E : Value → Shared → Prop} {pl : Sem Bool} {Q : Value × List Value → Shared → Prop} (I : Inv X pins σ H s) (r : CRead X.K C mc) (k : SMet X.K C mc m p g)
    (h : ∀ s', Inv X pins σ H s' → Q (.ref g, []) s') : wpAny (model X.prog X.w) A (getMethod (.ref C) m pl) Q E s := by
  refine PySem.W.method_cls I.kIn r.ga ?_
  obtain ⟨rest, hp⟩ := k.rc
  refine PySem.W.cls_bind I.kIn r.rd k.at_ ?_
  refine wpAny_call (PySem.W.sm_get (s := { s with toks := s.toks + 1 }) I.kIn hp (PySem.W.handed_on rfl ?_))
  exact h _ (I.tok _)
/-- C.m(e, ..), m a staticmethod of the class at C -/
def tSMeth (C : Addr) (sp : Sp) (dvs : List V) (E : XK) (ta : TE) (t : TA) : TE := fun σ H Q => ta σ H fun x H1 => x = .ref C ∧ t σ H1 fun vs H2 => sp (vs ++ dvs) H2 Q E
theorem pe_smeth {o e : Expr} {es : List Expr} {p g : Addr} {mc : Value} {m : Str} {pos apos : Pos} {ta : TE} {t : TA} {pl : Sem Bool} {ds : List Value} {dvs : List V} (he : PE X o ta) (r : CRead X.K C mc) (c : SMet X.K C mc m p g)
    (G0 : FnOk X.prog X.w X.K X.mg X.base CX k g fd ps sp) (hr : Room k X.A) (hb : Binds X.K fd ps ds) (hd : Vals dvs ds) (hx : Passes CX X E) (ha : PA X (e :: es) t)
    (hst : starEach (e :: es) X.env = (false, eval e X.env) :: starEach es X.env := by rfl) (hpl : (backTo pos (starEach es X.env)).any (·.1) = false := by rfl)
    (ht : eval (.Call (.Attribute o m apos) (e :: es) [] pos) X.env = (do
      let ov ← eval o X.env
      standAt apos.atName
      let (f, first) ← holding [ov] (getMethod ov m pl)
      callWith pos f first (backTo pos (starEach (e :: es) X.env)) (backToKw pos (keywordEach [] X.env))) := by rfl) :
    PE X (.Call (.Attribute o m apos) (e :: es) [] pos) (tSMeth C sp dvs E ta t) := by
  refine ⟨fun pins s σ H Q I h => ?_⟩
  refine PySem.W.methodCall_KW (pl := pl) (thn (he.run pins s σ H _ I h) fun u s1 ⟨x, H1, I1, rx, ex, q⟩ => ?_) ht
  subst ex
  obtain rfl : u = Value.ref C := rx
  refine getmethsm_ok I1 r c fun s2 I2 => ?_
  refine PySem.W.callWith_K (h₀ := X.base) I2.ok.mod.kin c.kp (thn (ha.run pos pins s2 σ H1 _ I2 q) fun us s3 ⟨vs, H2, I3, r3, q3⟩ => ⟨I3.kIn, ?_⟩) hst hpl
  exact run_fn G0 hr hb hd hx I3 r3 q3
/-- C(e, ..) where what its __init__ raises is wished for -/
def tMakeS (C : Addr) (sp : Sp) (E : L2.St → XK) (t : TA) : TE := fun σ H Q => t σ H fun vs H1 => ∀ x dx, H1 x = none → H1 dx = none → dx ≠ x →
  sp (.ref x :: vs) (upd (upd H1 dx (.own x)) x (.ins C dx [])) (fun v H2 => v = .non ∧ Q (.ref x) H2) (E σ)
theorem run_makeS {E : L2.St → XK} {pins : List (Addr × Obj)} {σ : L2.St} {H : Hp} {s : Shared} {Q : VK} {us : List Value} {vs : List V} (M : Mk X.K C f) (G0 : FnOk X.prog X.w X.K X.mg X.base CX k f fd ps sp) (hr : Room (k + 1) X.A) (hb : Binds X.K fd ps [])
    (hx : PassesAt CX X σ (E σ)) (I : Inv X pins σ H s) (r : Vals vs us)
    (h : ∀ x dx, H x = none → H dx = none → dx ≠ x → sp (.ref x :: vs) (upd (upd H dx (.own x)) x (.ins C dx [])) (fun v H2 => v = .non ∧ Q (.ref x) H2) (E σ)) :
    wpAny (model X.prog X.w) X.A (call (.ref C) us) (EP X pins σ Q) X.xe s := by
  have hq := h (s.heap.objs.size + 1) s.heap.objs.size (I.hok.fresh (Nat.le_succ _)) (I.hok.fresh (Nat.le_refl _)) (Nat.ne_of_lt (Nat.lt_succ_self _))
  have I2 := Inv.made (C := C) I
  have r2 : Vals (V.ref (s.heap.objs.size + 1) :: vs) (Value.ref (s.heap.objs.size + 1) :: us) := .cons rfl r
  have hl : (Value.ref (s.heap.objs.size + 1) :: us).length = ps.length := by
    have e := r2.length
    rw [G0.len _ _ _ _ hq] at e
    exact e.symm
  have b := hb _ (Value.ref (s.heap.objs.size + 1) :: us) I2.kIn (by rw [List.append_nil]; exact hl)
  rw [List.append_nil] at b
  refine wpAny_call (make_map (f := f) I.kIn M.makes M.init (beq_iff_eq.mp M.fn) (codeAny_mono (G0.run _ X.stack _ _ ⟨Value.ref (s.heap.objs.size + 1) :: us, []⟩ (Value.ref (s.heap.objs.size + 1) :: us) _ _ (E σ) (hr.make C us [])
    (I2.env0.make C us []) b r2 hq) fun r s' hq' => ?_))
  cases r with
  | error e => exact hx pins _ _ e s' I2 hq'
  | ok fl =>
    cases fl with
    | ret u =>
      obtain ⟨v, H', I3, rv, ev, q3⟩ := I2.after hq'
      subst ev
      exact ⟨rv, ⟨V.ref (s.heap.objs.size + 1), H', I3, rfl, q3⟩⟩
    | next => exact False.elim hq'
    | brk => exact False.elim hq'
    | cont => exact False.elim hq'
theorem pe_makeS {E : L2.St → XK} {x : Str} {p pos : Pos} {e : Expr} {es : List Expr} {t : TA} (M : Mk X.K C f) (G0 : FnOk X.prog X.w X.K X.mg X.base CX k f fd ps sp) (hr : Room (k + 1) X.A) (hg : Gl X x) (hm : X.mg x = some (.ref C)) (hb : Binds X.K fd ps []) (hx : ∀ σ, PassesAt CX X σ (E σ))
    (ha : PA X (e :: es) t) (hdb : (x == ("__debug__" : Str)) = false := by decide) (he : starEach (e :: es) X.env = (false, eval e X.env) :: starEach es X.env := by rfl) (hpl : (backTo pos (starEach es X.env)).any (·.1) = false := by rfl) :
    PE X (.Call (.Name x p) (e :: es) [] pos) (tMakeS C sp E t) := by
  refine ⟨fun pins s σ H Q I h => ?_⟩
  refine wpAny_Call_Name_kw (ld_glob I hg hm ?_ hdb)
  refine PySem.W.callWith_K (h₀ := X.base) I.ok.mod.kin M.kp (thn (ha.run pos pins s σ H _ I h) fun us s1 ⟨vs, H1, I1, r, q⟩ => ⟨I1.kIn, ?_⟩) he hpl
  exact run_makeS M G0 hr hb (hx σ) I1 r q
end
/-- isinstance(e, c) in an except suite of any error -/
theorem call_isEx {X : Cx} {a : Addr} {oe : Obj} {cls : Value} {d : Option Addr} {pn : List (Addr × Obj)} (hz : Zc cls d oe) (hf : ∃ vs, oe.data = .fields vs) :
    CallR (X.suite a ((a, oe) :: pn)) (.builtin "isinstance") (fun xs H Q => ∃ D, cls = .ref D ∧ d = none ∧ ExcC X.K D ∧ rIsE X.K D a xs H Q) := by
  intro pins s σ H xs us Q I r h
  obtain ⟨D, rfl, rfl, c, q⟩ := h
  exact call_isE c hz hf pins s σ H xs us Q I r q
/-- an own class against an own class, against a built-in one -/
theorem kit_own {K : PySem.W.Frag} {C D : Addr} {b : Bool} (hi : PySem.W.isClsIn K D = true) (ht : PySem.W.typeIn K (.ref D) = some (.type "type")) (hs : PySem.W.subIn K (.ref C) (.ref D) = some b) (hne : C ≠ D ∨ b = true) : PySem.W.kitOne K (.ref C) (.ref D) = some b := by
  unfold PySem.W.kitOne
  by_cases e : C = D
  · rcases hne with h | h
    · exact absurd e h
    · rw [if_pos (by rw [e]; simp), h]
  · rw [if_neg (by simp [e])]
    show (if ((PySem.W.clsIn K D).isSome && PySem.W.typeIn K (.ref D) == some (.type "type")) = true then _ else _) = _
    rw [if_pos (by
      rw [ht]
      have : (PySem.W.clsIn K D).isSome = true := hi
      rw [this]; simp)]
    exact hs
theorem kit_ownT {K : PySem.W.Frag} {C : Addr} {T : String} {b : Bool} (hm : PySem.W.kitMeta T = true) (hs : PySem.W.subIn K (.ref C) (.type T) = some b) : PySem.W.kitOne K (.ref C) (.type T) = some b := by
  unfold PySem.W.kitOne PySem.W.kitCls
  rw [if_neg (by simp)]
  show (if PySem.W.kitMeta T = true then _ else _) = _
  rw [if_pos hm]
  exact hs
end My
set_option maxRecDepth 100000
set_option maxHeartbeats 1000000
/-! own exceptions whose __init__ says super().__init__(text) and then stores its fields -/
namespace My
open PySem PySem.Spec PyProof.Rows L2
/-- the names of such a def: its parameters are local, nothing is a cell, __class__ alone is free -/
structure SupScope (N ps : List Str) (sc : Scope) : Prop where
  kind : sc.kind = .function
  co : sc.isCoroutine = false
  gen : sc.isGenerator = false
  nd : ps.Nodup
  eqN : N = ps
  par : ∀ x ∈ ps, sc.names.lookup x = some .local
  nocell : ∀ y ∈ sc.names, y.2 ≠ .cell
  free : ∀ y ∈ sc.names, y.2 = .free → y.1 = "__class__"
  ks : sc.names.lookup ("super" : Str) = some .globalImplicit
  kc : sc.names.lookup ("__class__" : Str) = some .free
/-- the context of its body -/
def cxSup (CX : CXT) (P : Program) (w : World) (K : PySem.W.Frag) (mg : Str → Option Value) (base : Heap) (N : List Str) (qual : Str) (scope : Scope) (f : Addr) (cd : Value) (cc : Addr) (A : Around) (outer : List Env) (s : Shared) (H : Hp) (E : XK) : Cx where
  prog := P
  w := w
  K := K
  mg := mg
  base := base
  A := A.deeper (PySem.W.ksEnv qual scope s.heap.objs.size f cd cc)
  N := N
  s_0 := s
  H_0 := H
  env := PySem.W.ksEnv qual scope s.heap.objs.size f cd cc
  outer := outer
  stack := PySem.W.ksEnv qual scope s.heap.objs.size f cd cc :: outer
  ex := []
  calm := true
  fn := fun _ => false
  pn := []
  xe := fun e s' => wpAny (model P w) (A.deeper (PySem.W.ksEnv qual scope s.heap.objs.size f cd cc)) (leaving (PySem.W.ksEnv qual scope s.heap.objs.size f cd cc) e) (fun _ s'' => CX outer H s E e s'') (fun e' s'' => CX outer H s E e' s'') s'
theorem lookup_of_mem {l : List (Str × Value)} {y : Str} {u : Value} (nd : (l.map (·.1)).Nodup) (h : (y, u) ∈ l) : l.lookup y = some u := by
  induction l with
  | nil => cases h
  | cons p r ih =>
    obtain ⟨z, v⟩ := p
    rw [List.map_cons, List.nodup_cons] at nd
    rcases List.mem_cons.mp h with e | e
    · cases e; simp [List.lookup]
    · have hne : y ≠ z := fun q => nd.1 (by rw [← q]; exact List.mem_map.mpr ⟨_, e, rfl⟩)
      have : (y == z) = false := by simpa using hne
      simp only [List.lookup, this]
      exact ih nd.2 e
theorem map_fst_zip_sub : ∀ (ps : List Str) (us : List Value), ((ps.zip us).map (·.1)).Sublist ps
  | [], _ => by simp
  | _ :: _, [] => by simp
  | p :: ps, u :: us => by simpa using map_fst_zip_sub ps us
theorem nd_rev {l : List Str} (h : l.Nodup) : l.reverse.Nodup := by
  induction l with
  | nil => simp
  | cons a t ih =>
    rw [List.nodup_cons] at h
    rw [List.reverse_cons, List.nodup_append]
    exact ⟨ih h.2, by simp, fun x hx y hy e => h.1 (by simp at hy; rw [← hy, ← e]; simpa using hx)⟩
theorem zip_lookup {ps : List Str} {us : List Value} {i : Nat} {y : Str} {u : Value} (nd : ps.Nodup) (h1 : ps[i]? = some y) (h2 : us[i]? = some u) : (ps.zip us).reverse.lookup y = some u := by
  refine lookup_of_mem ?_ ?_
  · rw [List.map_reverse]
    have : ((ps.zip us).map (·.1)).Nodup := by
      exact nd.sublist (map_fst_zip_sub ps us)
    exact nd_rev this
  · rw [List.mem_reverse]
    have : (ps.zip us)[i]? = some (y, u) := by rw [List.getElem?_zip_eq_some]; exact ⟨h1, h2⟩
    exact List.mem_of_getElem? this
section
variable {CX : CXT} {P : Program} {w : World} {K : PySem.W.Frag} {mg : Str → Option Value} {base : Heap} {N ps : List Str} {qual : Str} {scope : Scope} {f cc : Addr} {cd : Value} {A : Around} {outer : List Env} {s : Shared} {H : Hp} {E : XK}
theorem env_cells {x : Str} {c : Addr} {L : Addr} (h : (PySem.W.ksEnv qual scope L f cd cc).cells.lookup x = some c) : x = "__class__" ∧ c = cc := by
  have h' : ([(("__class__" : Str), cc)] : List (Str × Addr)).lookup x = some c := h
  by_cases e : x = "__class__"
  · subst e
    simp [List.lookup] at h'
    exact ⟨rfl, h'.symm⟩
  · have : (x == ("__class__" : Str)) = false := by simpa using e
    simp [List.lookup, this] at h'
theorem inv_sup {us : List Value} {vs : List V} {h1 : Heap} {t : Nat} {cl : Value} {cld : Option Addr} {cv : Option Value} {csl : Array (Option Value)} (S : SupScope N ps scope) (hd : A.handled = none) (e0 : Env0 P w K mg base A outer s H) (hl : vs.length = ps.length) (r : Vals vs us)
    (hcell : K.lookup cc = some ⟨cl, cld, .cell cv, csl⟩)
    (hns : h1.Ns s.heap.objs.size (fun x => (ps.zip us).reverse.lookup x)) (hk : ∀ b o, s.heap.get? b = some o → h1.get? b = some o) :
    Inv (cxSup CX P w K mg base N qual scope f cd cc A outer s H E) [] (L2.start N vs) H { s with heap := h1, toks := t } := by
  have noA : ∀ b : Addr, b ∉ (cxSup CX P w K mg base N qual scope f cd cc A outer s H E).ex := fun b z => absurd (show b ∈ ([] : List Addr) from z) (by simp)
  have hcb := e0.mod.kin _ _ hcell
  refine ⟨⟨e0.mod, S.kind, rfl, rfl, Nat.le_refl _, fun y z c h1 h2 => (env_cells h1).1.trans (env_cells h2).1.symm, fun y hy => ?_, fun y c h _ => absurd h Bool.false_ne_true, fun _ => hd, Around.frames_deeper e0.frames, .inr ⟨rfl, rfl⟩, fun b z => absurd z (noA b), e0.bs, e0.bsz, fun b _ _ => noA b, fun b z => absurd z (noA b), e0.funs, e0.frf⟩,
    rfl, e0.bare, Un.kept hk, ⟨_, hns, fun i y v h1 h2 h3 => ?_⟩, fun y c h => ?_, e0.hok.fresh (Nat.le_refl _), fun y c h => ?_, fun p hp => absurd (show p ∈ ([] : List (Addr × Obj)) from hp) (by simp), e0.hok.kept hk, ?_⟩
  · have hy : scope.names.lookup y = some .cell ∨ scope.names.lookup y = some .free := hy
    rcases hy with hy | hy
    · exact absurd rfl (S.nocell _ (PySem.mem_of_lookup hy))
    · have e := S.free _ (PySem.mem_of_lookup hy) rfl
      refine ⟨cc, ?_⟩
      show ([(("__class__" : Str), cc)] : List (Str × Addr)).lookup y = some cc
      have e' : y = "__class__" := e
      rw [e']
      simp [List.lookup]
  · have hlen : N.length = vs.length := by rw [S.eqN, hl]
    have e2 : L2.start N vs = vs.map some := by unfold L2.start; rw [hlen, Nat.sub_self]; simp
    rw [e2, List.getElem?_map] at h2
    cases ea : vs[i]? with
    | none => rw [ea] at h2; cases h2
    | some a =>
      rw [ea] at h2
      cases h2
      obtain ⟨u, hu, rv⟩ := r.get ea
      have hp : ps[i]? = some y := by rw [← S.eqN]; exact h1
      exact ⟨u, rv, .inl ⟨S.par y (List.mem_of_getElem? hp), zip_lookup S.nd hp hu⟩⟩
  · obtain ⟨rfl, rfl⟩ := env_cells h
    exact ⟨cv, _, hk _ _ (e0.bs _ _ hcb).1, rfl⟩
  · obtain ⟨rfl, rfl⟩ := env_cells h
    exact (e0.bs _ _ hcb).2
  · unfold L2.start
    show _ = N.length
    rw [List.length_append, List.length_map, List.length_replicate, S.eqN]
    omega
end
open PySem.W (ksFn ksEnv)
/-- what the written part says of such a class -/
structure SupCls (P : Program) (K : PySem.W.Frag) (mg : Str → Option Value) (C : Addr) : Prop where
  cd : ∃ cd, PySem.W.clsIn K C = some cd
  mro : PySem.W.mroIn K C (.ref C) = some true
  sup : PySem.W.ks_superIn K C C "__init__" = some (some (.builtin "ValueError.__init__"))
  opq : PySem.W.nsIn K PySem.cStatics "thirdparty.any" = some none
  ve : PySem.W.subIn K (.ref C) (.type "ValueError") = some true
  mgs : mg "super" = none
  top : (P.main.scope.names.lookup ("super" : Str)).isSome = false
  ox : OexC K C
/-- and of its __init__ -/
structure SupFn (P : Program) (K : PySem.W.Frag) (st : Stmt) (qual : Str) (C f : Addr) (fd : FuncData) : Prop where
  ex : ∃ (oc : Value) (od : Option Addr) (kV doc pm : Value) (an : Option Addr) (cda : Addr) (ct : Value) (cc : Addr) (sl : Array (Option Value)),
    fd = ksFn "__init__" qual (defArgs st) (defBody st) (defScope st) .none kV doc pm an (.ref cda) ct cc ∧ K.lookup f = some ⟨oc, od, .func fd, sl⟩ ∧ PySem.W.codeIn K (.ref cda) qual = true ∧
    (∃ (a : Value) (b : Option Addr) (vs : Array Value) (d : Array (Option Value)) (file : Str) (tf : Tok), K.lookup cda = some ⟨a, b, .fields vs, d⟩ ∧ vs[2]? = some (.str file tf) ∧ ((P.main.file : Str) == file) = true) ∧
    ∃ (a : Value) (b : Option Addr) (d : Array (Option Value)), K.lookup cc = some ⟨a, b, .cell (some (.ref C)), d⟩
section
variable {CX : CXT} {P : Program} {w : World} {K : PySem.W.Frag} {mg : Str → Option Value} {base : Heap} {N ps : List Str} {qual : Str} {scope : Scope} {f cc cda C a : Addr} {A : Around} {outer : List Env} {s0 : Shared} {H0 : Hp} {E : XK}
variable {oc : Value} {od : Option Addr} {fd : FuncData} {sl : Array (Option Value)} {vs : Array Value} {file : Str} {tf : Tok}
theorem mw_call {X : Cx} {pins : List (Addr × Obj)} {σ : L2.St} {H : Hp} {s : Shared} {u : Addr} {us : List Value} {Q : Value → Shared → Prop} {B : Around} {EE : Value → Shared → Prop} (T : OexC X.K C) (I : Inv X ((u, PySem.W.kxs_mw "ValueError.__init__" a) :: pins) σ H s)
    (ea : H a = some (exo a C none)) (hz : us.length ≤ sizeLine) (q : ∀ s', Inv X ((u, PySem.W.kxs_mw "ValueError.__init__" a) :: pins) σ H s' → Q .none s') :
    wpAny (model X.prog X.w) B (call (.ref u) us) Q EE s := by
  obtain ⟨nm, q0, N0, bs, bm, sn, sub, ab, col, dd, k0, k1, k2, k3, k5, hC, hbm⟩ := T.cls
  obtain ⟨t1, ho⟩ := exo_at I.hok ea
  have hu := ClX.pin_at I
  have KX := I.kIn
  have eu : upd H a (exo a C none) = H := by
    funext b
    by_cases hb : b = a
    · rw [hb, upd_same, ea]
    · rw [upd_ne hb]
  have T1 : (Value.type "method-wrapper" == Value.type "method" || Value.type "method-wrapper" == Value.type "builtin_function_or_method" || Value.type "method-wrapper" == Value.type "method-wrapper") = true := by decide
  obtain ⟨hp, g, d, t, os⟩ := s
  refine wpAny_call (codeAny_of_tree ?_)
  show wpAny _ _ (callAny (.ref u) ⟨us, []⟩) _ _ _
  unfold callAny
  refine wpAny_bind (wpAny_load hu ?_)
  simp only [PySem.W.kxs_mw, T1, if_true]
  refine PySem.W.KFB.if_so (by decide) ?_
  refine wpAny_bind (PySem.W.check_bound_init F.excBase_ValueError.toExcCallFacts (KX _ _ hC) ho rfl ?_)
  refine wpAny_bind (wpAny_pure (wpAny_pure ⟨PySem.plainId_quiet F.excBase_ValueError.init.plain _, codeAny_builtin F.excBase_ValueError.initEntry ?_⟩))
  refine PySem.W.exc_init_tree (cls := .ref C) (t0 := t1) (dv := none) (c2 := .none) (c3 := .none) (b4 := .bool false) ho hz fun h' k e1 _ => ?_
  have J := I.write (t' := t) (x := a) (e := a) (o := exo a C none) (by rw [ea]; exact True.intro) (.inl rfl) k ⟨_, e1⟩ (exo_ok e1)
  rw [eu] at J
  exact q _ J

/-- super().__init__(e, ..) at the head of the body -/
theorem sup_run {an : Option Addr} {kV doc pm ct : Value} {body : List Stmt} {args : Arguments} {σ : L2.St} {H : Hp} {s : Shared} {ta : TA} {e : Expr} {es : List Expr} {p0 p1 p2 p3 p4 : Pos} {ar : Arg} {Q : Flow → Shared → Prop}
    (S : SupScope N ps scope) (D : SupCls P K mg C)
    (lk : K.lookup f = some ⟨oc, od, .func (ksFn "__init__" qual args body scope .none kV doc pm an (.ref cda) ct cc), sl⟩) (har : (args.posonlyargs ++ args.args).head? = some ar)
    (lc : ∃ (a : Value) (b : Option Addr) (vs : Array Value) (d : Array (Option Value)) (file : Str) (tf : Tok), K.lookup cda = some ⟨a, b, .fields vs, d⟩ ∧ vs[2]? = some (.str file tf) ∧ ((P.main.file : Str) == file) = true)
    (lq : ∃ (a : Value) (b : Option Addr) (d : Array (Option Value)), K.lookup cc = some ⟨a, b, .cell (some (.ref C)), d⟩)
    (I : Inv (cxSup CX P w K mg base N qual scope f (.ref cda) cc A outer s0 H0 E) [] σ H s) (h0 : σ[0]? = some (some (.ref a))) (hN : N[0]? = some ar.arg) (hloc : scope.names.lookup ar.arg = some .local)
    (ea : H a = some (exo a C none)) (hes : PA (cxSup CX P w K mg base N qual scope f (.ref cda) cc A outer s0 H0 E) (e :: es) ta)
    {R : Hp → Prop} (q : ta σ H fun us H1 => us.length ≤ 1000 ∧ H1 a = some (exo a C none) ∧ R H1)
    (cont : ∀ H1 s', R H1 → Inv (cxSup CX P w K mg base N qual scope f (.ref cda) cc A outer s0 H0 E) [] σ H1 s' → Q .next s')
    (he : starEach (e :: es) (ksEnv qual scope s0.heap.objs.size f (.ref cda) cc) = (false, eval e (ksEnv qual scope s0.heap.objs.size f (.ref cda) cc)) :: starEach es (ksEnv qual scope s0.heap.objs.size f (.ref cda) cc))
    (hpl : (backTo p3 (starEach es (ksEnv qual scope s0.heap.objs.size f (.ref cda) cc))).any (·.1) = false) 
    (hsw : swapsWith (.Call (.Attribute (.Call (.Name "super" p0) [] [] p1) "__init__" p2) (e :: es) [] p3) none p4.line (ksEnv qual scope s0.heap.objs.size f (.ref cda) cc) = pure false)
    {pl : Sem Bool} (hcall : eval (.Call (.Attribute (.Call (.Name "super" p0) [] [] p1) "__init__" p2) (e :: es) [] p3) (ksEnv qual scope s0.heap.objs.size f (.ref cda) cc) = (do
      let ov ← attributeBase (.Call (.Name "super" p0) [] [] p1) "__init__" (ksEnv qual scope s0.heap.objs.size f (.ref cda) cc) (eval (.Call (.Name "super" p0) [] [] p1) (ksEnv qual scope s0.heap.objs.size f (.ref cda) cc))
      standAt p2.atName
      let (fx, first) ← holding [ov] (getMethod ov "__init__" pl)
      callWith p3 fx first (backTo p3 (starEach (e :: es) (ksEnv qual scope s0.heap.objs.size f (.ref cda) cc))) []))
    (B : List Stmt) :
    PySem.wpAt (model P w) (A.deeper (ksEnv qual scope s0.heap.objs.size f (.ref cda) cc)) (.func B (ksEnv qual scope s0.heap.objs.size f (.ref cda) cc))
      (exec (.Expr (.Call (.Attribute (.Call (.Name "super" p0) [] [] p1) "__init__" p2) (e :: es) [] p3) p4) (ksEnv qual scope s0.heap.objs.size f (.ref cda) cc)) Q (cxSup CX P w K mg base N qual scope f (.ref cda) cc A outer s0 H0 E).xe s := by
  have KX : K.In s.heap := I.kIn
  obtain ⟨t1, hoe⟩ := exo_at I.hok ea
  obtain ⟨m, hn, hl⟩ := I.loc
  obtain ⟨u, ru, look⟩ := hl 0 ar.arg (.ref a) hN h0 (Or.inl hloc)
  obtain rfl : u = Value.ref a := ru
  have hm : m ar.arg = some (.ref a) := by
    rcases look with z | ⟨z, _⟩
    · exact z.2
    · have z : scope.names.lookup ar.arg = some .cell ∨ scope.names.lookup ar.arg = some .free := z
      rw [hloc] at z
      rcases z with z | z <;> cases z
  obtain ⟨c1, c2, vs, c3, file, tf, hcode, hvs, hfile⟩ := lc
  obtain ⟨c4, c5, c6, hcell⟩ := lq
  obtain ⟨cd, hcd⟩ := D.cd
  obtain ⟨mb, hb1, hb2⟩ := I.mod.blt
  obtain ⟨oD, hD1, hD2⟩ : ∃ oD, s.heap.get? C = some oD ∧ oD.data = .cls cd := by
    unfold PySem.W.clsIn at hcd
    split at hcd
    · rename_i ho
      cases hcd
      exact ⟨_, KX _ _ ho, rfl⟩
    · cases hcd
  obtain ⟨hh, g, d, t, os⟩ := s
  refine ks_wpAt_Expr_any ?_ I.quiet hsw
  refine ks_wpAt_MethodCall (he := hcall) ?_
  refine ks_wpAt_super_base (ar := ar) S.ks S.kc rfl rfl (KX _ _ lk) rfl har rfl (KX _ _ hcode) rfl hvs hfile D.top ?_
  refine PySem.W.ks_loadName_global S.kind S.ks (Calls.loadGlobal_builtin (I.mod.glob.keeps I.bk) D.mgs (hb1.keeps I.bk) ((hb2 _ (by decide)).trans PyProof.Rows.Boot.«super») ⟨rfl, ?_⟩)
  refine wpAny_loadName_free S.kind S.kc rfl ⟨_, KX _ _ hcell, rfl⟩ ?_
  refine wpAny_loadName_local S.kind hloc hn hm ?_
  refine ks_wpAny_isType_cls hD1 hD2 ⟨rfl, ?_⟩
  refine ks_wpAny_call_super hD1 hD2 hoe rfl (fun c z => by cases z) (PySem.W.looks_mroIn KX D.mro) (fun h' e1 k => ?_)
  have I1 := ClX.pin_new (t' := t) I k (Nat.le_refl _) e1 (fun v z => by cases z)
  have KX1 : K.In h' := I1.kIn
  have hca : a ≠ C := fun z => by
    subst z
    rw [hoe] at hD1
    cases hD1
    cases hD2
  have hsI : PySem.W.Looks (model P w) h' (isInstance (.ref a) (.type "ValueError")) true := by
    have II : PySem.W.InstAt h' a _ C none := ⟨k _ _ hoe, rfl, rfl, trivial⟩
    exact II.type.andThen (PySem.W.looks_subIn KX1 D.ve)
  have hsup := D.sup
  unfold PySem.W.ks_superIn at hsup
  rw [hcd] at hsup
  refine PySem.W.kxs_getMethod PySem.W.kxs_ValueError e1 (PySem.W.looks_opaque KX1 D.opq) (l₀ := cd.mro) (fun A Q E s k q => wpAny_bind ((PySem.W.looks_clsIn KX1 hcd) A _ E s k (wpAny_pure q))) rfl KX1 hsup hsI hca rfl ?_
  have I2 := ClX.pin_new (t' := t + 1) I1 (h' := h'.push (PySem.W.kxs_mw "ValueError.__init__" a)) (o := PySem.W.kxs_mw "ValueError.__init__" a) (fun b o z => Heap.get?_push_of_some _ z) (Nat.le_refl _) (Heap.get?_push_at rfl rfl) (fun v z => by cases z)
  dsimp only
  rw [he]
  refine PySem.W.kxs_callWith (i := "ValueError.__init__") (x := a) (by show (false || (backTo p3 (starEach es _)).any (·.1)) = false; rw [hpl]; rfl) (Calls.evalArgs_plain ?_)
  have run := hes.run p3 _ _ σ H _ I2 q
  rw [show starEach (e :: es) (cxSup CX P w K mg base N qual scope f (.ref cda) cc A outer s0 H0 E).env = _ from he] at run
  refine thn run fun us s1 ⟨xs, H1, I3, r1, hz, ea1, q1⟩ => ⟨ClX.pin_at I3, ?_⟩
  have hlen : us.length ≤ sizeLine := by
    rw [← Paired.length r1, sizeLine_eq]
    omega
  exact mw_call D.ox I3 ea1 hlen fun s' J => cont _ s' q1 (ClX.unpin (ClX.unpin J))

/-- such an __init__, by what it says behind super() -/
theorem sup_ok {st : Stmt} {fd : FuncData} {k : Nat} {sp : Sp} {body : List Stmt} {e : Expr} {p0 p1 p2 p3 p4 : Pos} {ar : Arg} {pl : Sem Bool} (F : SupFn P K st qual C f fd) (S : SupScope N ps (defScope st)) (D : SupCls P K mg C)
    (hb : defBody st = .Expr (.Call (.Attribute (.Call (.Name "super" p0) [] [] p1) "__init__" p2) [e] [] p3) p4 :: body) (har : ((defArgs st).posonlyargs ++ (defArgs st).args).head? = some ar) (hN : N[0]? = some ar.arg)
    (he : ∀ env : Env, starEach [e] env = [(false, eval e env)])
    (hsw : ∀ env : Env, swapsWith (.Call (.Attribute (.Call (.Name "super" p0) [] [] p1) "__init__" p2) [e] [] p3) none p4.line env = pure false)
    (hcall : ∀ env : Env, eval (.Call (.Attribute (.Call (.Name "super" p0) [] [] p1) "__init__" p2) [e] [] p3) env = (do
      let ov ← attributeBase (.Call (.Name "super" p0) [] [] p1) "__init__" env (eval (.Call (.Name "super" p0) [] [] p1) env)
      standAt p2.atName
      let (fx, first) ← holding [ov] (getMethod ov "__init__" pl)
      callWith p3 fx first (backTo p3 (starEach [e] env)) []))
    (len : ∀ vs H Q E, sp vs H Q E → vs.length = ps.length)
    (hbody : ∀ (cda : Value) (cc : Addr) (A : Around) (outer : List Env) (s : Shared) (H : Hp) (vs : List V) (Q : VK) (E : XK), Room k (A.deeper (ksEnv qual (defScope st) s.heap.objs.size f cda cc)) → sp vs H Q E →
      ∃ (a : Addr) (te : TE) (t : TS), vs[0]? = some (.ref a) ∧ H a = some (exo a C none) ∧ PE (cxSup CX P w K mg base N qual (defScope st) f cda cc A outer s H E) e te ∧ PSs (cxSup CX P w K mg base N qual (defScope st) f cda cc A outer s H E) body t ∧
        te (L2.start N vs) H fun x H1 => [x].length ≤ 1000 ∧ H1 a = some (exo a C none) ∧ t { nx := fun _ H' => Q .non H', rt := Q } (L2.start N vs) H1) : FnOk P w K mg base CX (k + 1) f fd ps sp := by
  obtain ⟨oc, od, kV, doc, pm, an, cda, ct, cc, sl, rfl, lk, hcd, lc, lq⟩ := F.ex
  refine ⟨len, fun A outer s H args us vs Q E hr e0 hbi r hsp => ?_⟩
  have hl := len _ _ _ _ hsp
  have KX : K.In s.heap := e0.mod.kin.keeps fun b o e => (e0.bs b o e).1
  have lim : s.heap.NoLimit := e0.mod.nolimit.keeps fun b o e => (e0.bs b o e).1
  obtain ⟨c4, c5, c6, hcell⟩ := lq
  refine ks_codeAny_call_defAt (body := defBody st) hr.depth (KX _ _ lk) rfl lim (PySem.W.codeRec_of KX hcd) rfl hbi S.nocell (fun ⟨n, v⟩ hy => S.par n (List.of_mem_zip hy).1) (fun h1 hns hk => ?_) S.co S.gen S.kind
  obtain ⟨a, te, t, hv, ea, pe, pss, q⟩ := hbody (.ref cda) cc A outer s H vs Q E (hr.deeper _) hsp
  have I : Inv (cxSup CX P w K mg base N qual (defScope st) f (.ref cda) cc A outer s H E) [] (L2.start N vs) H _ := inv_sup (t := s.toks + (ps.zip us).length) S hr.hd e0 hl r hcell hns hk
  have fin : ∀ {σ' : L2.St} {H' : Hp} {v : V} {u : Value} {s' : Shared}, Inv (cxSup CX P w K mg base N qual (defScope st) f (.ref cda) cc A outer s H E) [] σ' H' s' → RelV v u → Q v H' → CE outer P w H s Q u s' :=
    fun {σ' H' v u s'} J rv q => ⟨v, H', J.os, J.bare, J.base, J.hok, rv, q⟩
  have h0 : (L2.start N vs)[0]? = some (some (V.ref a)) := by
    unfold L2.start
    rw [List.getElem?_append_left (by rw [List.length_map]; exact (List.getElem?_eq_some_iff.mp hv).1), List.getElem?_map, hv]
    rfl
  have hloc : (defScope st).names.lookup ar.arg = some .local := S.par _ (by rw [← S.eqN]; exact List.mem_of_getElem? hN)
  show PySem.wpAt _ _ _ (execs (defBody st) _) _ _ _
  rw [hb]
  refine ks_wpAt_execs_cons ?_
  refine sup_run S D lk har lc ⟨c4, c5, c6, hcell⟩ I h0 hN hloc ea (pa_cons pe pa_nil (he _)) q (fun H1 s1 q1 J => ?_) (he _) rfl (hsw _) (hcall _) _
  refine wpAt_of_wpAny (wpAny_mono (pss.run [] s1 (L2.start N vs) H1 _ J q1) (fun fl s' hs => ?_) fun e s' hs => hs)
  cases fl with
  | ret u =>
    obtain ⟨v, σ', H', J, rv, q⟩ := hs
    exact fin J rv q
  | next =>
    obtain ⟨σ', H', J, q⟩ := hs
    exact fin (v := V.non) (u := Value.none) J rfl q
  | brk =>
    obtain ⟨_, _, _, q⟩ := hs
    exact False.elim q
  | cont =>
    obtain ⟨_, _, _, q⟩ := hs
    exact False.elim q
end
end My
set_option maxRecDepth 100000
set_option maxHeartbeats 1000000
namespace My
open PySem PySem.Spec PyProof.Rows L2
/-! ### max(x, default=d) of a list of whole numbers -/
theorem ints_reads {h : Heap} : ∀ {ns : List Int} {us : List Value}, Vals (ns.map V.int) us → ReadsAll h us (ns.map PyData.int) []
  | [], _, .nil => .nil
  | n :: ns, _, .cons r t => by
    obtain ⟨tk, rfl⟩ := r
    exact ReadsAll.cons (as := []) (bs := []) (.int n tk) (ints_reads t)
theorem alike_ints (ns : List Int) : PySem.W.AlikeAll (ns.map PyData.int) := by
  refine ⟨fun x hx y hy => ?_, fun x hx => ?_⟩
  · obtain ⟨i, _, rfl⟩ := List.mem_map.mp hx
    obtain ⟨j, _, rfl⟩ := List.mem_map.mp hy
    rfl
  · obtain ⟨i, _, rfl⟩ := List.mem_map.mp hx
    exact fun z => nomatch z
theorem depth_ints : ∀ ns : List Int, PyData.depthAll (ns.map PyData.int) ≤ 1
  | [] => by simp [PyData.depthAll]
  | n :: ns => by
    have := depth_ints ns
    simp only [List.map_cons, PyData.depthAll, PyData.depth]
    omega
theorem foldl_max (ns : List Int) : ∀ n : Int, (ns.foldl max n ∈ n :: ns) ∧ ∀ y ∈ n :: ns, y ≤ ns.foldl max n := by
  induction ns with
  | nil => intro n; simp
  | cons k r ih =>
    intro n
    obtain ⟨h1, h2⟩ := ih (max n k)
    rw [List.foldl_cons]
    refine ⟨?_, fun y hy => ?_⟩
    · rcases List.mem_cons.mp h1 with e | e
      · rw [e]
        rcases Int.le_total n k with z | z
        · rw [Int.max_eq_right z]; simp
        · rw [Int.max_eq_left z]; simp
      · exact List.mem_cons_of_mem _ (List.mem_cons_of_mem _ e)
    · have hm := h2 (max n k) List.mem_cons_self
      rcases List.mem_cons.mp hy with e | e
      · rw [e]; omega
      · rcases List.mem_cons.mp e with e | e
        · rw [e]; omega
        · exact h2 y (List.mem_cons_of_mem _ e)
section
variable {X : Cx}
def rMaxDf (K : PySem.W.Frag) : List V → List V → Hp → VK → Prop := fun xs zs H Q => ∃ (a : Addr) (ns : List Int) (d : Int), xs = [.ref a] ∧ zs = [.int d] ∧ SqL K H a (ns.map V.int) ∧
  (ns = [] → Q (.int d) H) ∧ ∀ m, m ∈ ns → (∀ y ∈ ns, y ≤ m) → Q (.int m) H
theorem call_maxDf (hc : X.calm = true) (hu : X.A.units + 10 < cLine) : CallRK X (.builtin "max") ["default"] (rMaxDf X.K) := by
  intro pins s σ H xs zs us ws Q I r rz h
  obtain ⟨a, ns, d, rfl, rfl, hq, h0, h1⟩ := h
  obtain rfl := Vals.ref1 r
  obtain ⟨w, rfl, rw'⟩ := rz.one
  obtain ⟨its, rv, pl, hz⟩ := I.list hq
  have hd := depth_ints ns
  refine PySem.W.max_list_default (I.ok.hd hc) pl.isList (xs := ns.map PyData.int) (as := []) (by rw [List.toList_toArray]; exact ints_reads rv) (alike_ints ns) (by show X.A.units + 1 + _ < _; omega) (fun e h' tk k => ?_) fun y ys i v h' tk bs e hv rd k => ?_
  · exact ⟨.int d, H, I.kept (t' := tk) k, rw', h0 (List.map_eq_nil_iff.mp e)⟩
  · cases ns with
    | nil => cases e
    | cons n ns =>
      rw [List.map_cons] at e
      obtain ⟨rfl, rfl⟩ := List.cons.inj e
      rw [PySem.W.maxD_ints] at rd
      obtain ⟨t0, rfl, _⟩ := reads_int_inv rd
      obtain ⟨m1, m2⟩ := foldl_max ns n
      exact ⟨.int (ns.foldl max n), H, I.kept (t' := tk) k, ⟨_, rfl⟩, h1 _ m1 m2⟩
/-! ### isinstance(e, c) of a caught error with fields -/
theorem call_isExD {a : Addr} {oe : Obj} {cls : Value} {d : Option Addr} {pn : List (Addr × Obj)} (hz : Zc cls d oe) (hf : ∃ vs, oe.data = .fields vs) :
    CallR (X.suite a ((a, oe) :: pn)) (.builtin "isinstance") (fun xs H Q => ∃ D dd fs, cls = .ref D ∧ d = some dd ∧ H dd = some (.xd fs) ∧ ExcC X.K D ∧ rIsE X.K D a xs H Q) := by
  intro pins s σ H xs us Q I r h
  obtain ⟨D, dd, fs, rfl, rfl, hd, C, c, cv, b, rfl, hcv, e, q⟩ := h
  cases r with
  | cons rx rr =>
    cases rr with
    | cons rt rr =>
      cases rr
      cases rx
      have ec := hcv _ rt
      subst ec
      obtain ⟨hget, _⟩ := I.pin (a, oe) (List.mem_append.mpr (.inl List.mem_cons_self))
      obtain ⟨vs, hv⟩ := hf
      have hx : ObjOk X.prog X.w H s.heap dd (.xd fs) := I.hok dd _ hd
      obtain ⟨mA, ⟨od, es, ep, ho, _⟩, _⟩ := hx
      have J : PySem.W.InstAt s.heap a oe D (some od) := ⟨hget, hz.1, by unfold PySem.W.notCls; rw [hv] <;> rfl, by rw [hz.2]; exact ho⟩
      obtain ⟨cdD, hcD, _⟩ := PySem.W.any_some C.hd
      refine PySem.W.kia_one (PySem.W.kitx_exc (od := some od) (by rw [hcD]; rfl) C.hg C.hk C.hs C.ha C.hn C.ht C.hm) I.kIn J e (fun z => nomatch z) fun tk => ⟨.bl b, H, I.kept (t' := tk) fun _ _ z => z, rfl, q⟩
end
/-! ### what such a class has, by a check -/
theorem tail_refs : ∀ {l : List Value}, PySem.W.excTail [.type "ValueError", .type "Exception", .type "BaseException", .type "object"] l = true → PySem.HandSPX.refsVE l = true := by
  intro l
  induction l with
  | nil => intro h; revert h; decide
  | cons a t ih =>
    intro h
    cases a <;> first | exact ih h | exact h
theorem oex_of {K : PySem.W.Frag} {C : Addr} (q : PySem.W.excInitIn K C [.type "ValueError", .type "Exception", .type "BaseException", .type "object"] "ValueError.__new__" = true) (hd : PySem.W.hasDictIn K C = true)
    (sa : PySem.W.findIn K (.ref C) "__setattr__" = some (some (.builtin "object.__setattr__"))) (bp : PySem.W.subIn K (.ref C) (.type "BaseException") = some true) (tp : PySem.W.typeIn K (.ref C) = some (.type "type")) (kp : PySem.W.keepIn K (.ref C) = true) : OexC K C := by
  refine ⟨?_, sa, bp, tp, kp⟩
  unfold PySem.W.excInitIn at q
  split at q
  · rename_i dd cd sl ho
    split at q
    · rename_i C' bm k0 k1 k2 k3 n k5 hm hs
      simp only [Bool.and_eq_true, beq_iff_eq, Bool.not_eq_true'] at q
      obtain ⟨⟨⟨e1, e2⟩, hdel⟩, ht⟩ := q
      subst e1
      subst e2
      obtain ⟨cd1, hc1, hd1⟩ := PySem.W.any_some hd
      have ec : PySem.W.clsIn K C' = some cd := by unfold PySem.W.clsIn; rw [ho]
      rw [ec] at hc1
      cases hc1
      obtain ⟨nm, bs, mro, ns, qn, hdc, sn, sub, ab, col, del⟩ := cd
      dsimp only at hm hdel hd1
      subst hm
      subst hdel
      subst hd1
      have hsl : sl = #[k0, k1, k2, k3, some (.builtin "ValueError.__new__"), k5] := by
        obtain ⟨l⟩ := sl
        simp only at hs
        rw [hs]
      subst hsl
      exact ⟨nm, qn, ns, bs, bm, sn, sub, ab, col, dd, k0, k1, k2, k3, k5, ho, tail_refs ht⟩
    · cases q
  · cases q
/-! ### the promises of such an __init__ -/
/-- one field -/
def spX1 (C : Addr) (f : Str) (P : V → Prop) : Sp := fun vs H Q _ => ∃ (a : Addr) (y : V), vs = [.ref a, y] ∧ P y ∧ H a = some (exo a C none) ∧ ∀ d, H d = none → d ≠ a → Q .non (upd (upd H d (exd d [(f, y)])) a (exo a C (some d)))
def smallI (y : V) : Prop := ∃ i : Int, y = .int i ∧ i.natAbs < 1000000
theorem small_log {i : Int} (h : i.natAbs < 1000000) : i.natAbs.log2 < 1920 := by
  rcases Nat.eq_zero_or_pos i.natAbs with e | e
  · rw [e]; decide
  · exact Nat.lt_of_lt_of_le ((Nat.log2_lt (by omega)).mpr (Nat.lt_of_lt_of_le h (by decide : 1000000 ≤ 2 ^ 20))) (by decide)
end My
set_option maxRecDepth 100000
set_option maxHeartbeats 1000000
namespace My
open PySem PySem.Spec PyProof.Rows L2
/-! ### iter(t) of a tuple; list(o), o's class with its own __iter__ (a tuple's iterator) and its own __len__ -/
/-- a tuple's iterator at it, over the tuple at l, the next place i -/
def TitO (l it : Addr) (i : Nat) : HO := .ext fun h => h.IsTupleIter it l i
/-- at it stands something -/
def AnyO (it : Addr) : HO := .ext fun h => ∃ o, h.get? it = some o
theorem titO_ok {P : Program} {w : World} {H : Hp} {h : Heap} {l it : Addr} {i : Nat} (e : h.IsTupleIter it l i) : ObjOk P w H h it (TitO l it i) :=
  ⟨e, ⟨_, e.choose_spec.1⟩, fun h1 h2 q k => let ⟨o, ho, r⟩ := q; ⟨o, k _ ho, r⟩⟩
theorem anyO_ok {P : Program} {w : World} {H : Hp} {h : Heap} {it : Addr} (e : ∃ o, h.get? it = some o) : ObjOk P w H h it (AnyO it) := ⟨e, e, fun h1 h2 q k => let ⟨o, ho⟩ := q; ⟨o, k _ ho⟩⟩
section
variable {X : Cx} {pins : List (Addr × Obj)} {σ : L2.St} {H : Hp} {s : Shared} {l it S : Addr} {i : Nat}
theorem titO_get (I : Inv X pins σ H s) (e : H it = some (TitO l it i)) : s.heap.IsTupleIter it l i := (I.hok it _ e).1
theorem call_iterT : CallR X (.builtin "iter") (fun xs H Q => ∃ (l : Addr) (zs : List V), xs = [.ref l] ∧ SqT X.K H l zs ∧ ∀ it, H it = none → Q (.ref it) (upd H it (TitO l it 0))) := by
  intro pins s σ H xs us Q I r h
  obtain ⟨l, zs, rfl, hq, q⟩ := h
  obtain rfl := Vals.ref1 r
  obtain ⟨its, rv, pl, hz⟩ := I.tuple hq
  refine Calls.call_function_entry (by decide +kernel) (by decide +kernel) PySem.W.kdk_entry_iter (PySem.W.kdk_args_iter _) ?_
  unfold Builtin.«iter»
  refine wpAny_bind (m := someArgs "iter" 1 2 _) (wpAny_of_eq (a := [Value.ref l]) (by first | rfl | kernel_rfl!) ?_)
  show wpAny _ _ (pyIter (.ref l) >>= _) _ _ _
  refine wpAny_bind (wpAny_pyIter_tuple (show s.heap.IsTuple l its.toArray from pl) (wpAny_pure ⟨_, rfl, ?_⟩))
  exact ⟨.ref s.heap.objs.size, _, I.laid (t' := s.toks) (fun b u e => Heap.get?_push_of_some _ e) (Nat.le_refl _) (titO_ok ⟨_, Heap.get?_push_size _ rfl, rfl, rfl⟩), rfl, q _ (I.hok.fresh (Nat.le_refl _))⟩
/-- the end of a tuple's iterator; its record stays -/
theorem tup_end {prog : Program} {w : World} {A : Around} {E : Value → Shared → Prop} {items : Array Value} {Q : Option Value → Shared → Prop} (hh : A.handled = none) (hit : s.heap.IsTupleIter it l i) (ht : s.heap.IsTuple l items) (hx : items[i]? = none)
    (hQ : ∀ h', (∀ b o, b ≠ it → s.heap.get? b = some o → h'.get? b = some o) → (∃ o, h'.get? it = some o) → Q none { s with heap := h' }) : wpAny (model prog w) A (pyNext (.ref it)) Q E s := by
  obtain ⟨o, ho, hc, hd⟩ := id hit
  obtain ⟨ol, hol, _, nl, hdl⟩ := ht
  have hup := Heap.get?_update_self (Obj.mapFields (·.setIfInBounds 0 Value.none)) ho (Obj.isFreed_of_fields (Obj.data_mapFields hd _))
  unfold pyNext
  refine wpAny_bind (wpAny_attempt (wpAny_callSpecial?_slot (name := Str.ofString "__next__") hit.typeIs PySem.F.slot_tuple_iterator_next (wpAny_call_entry PySem.F.slot_tuple_iterator_next hit.typeIs PySem.F.entry_tuple_iterator_next ?_ (PySem.F.args_tuple_iterator_next_1 _))))
  show wpAny _ _ (field (.ref it) 0 >>= _) _ _ s; refine wpAny_bind (wpAny_field ho hd (x := .ref l) rfl ?_); show wpAny _ _ (if (Value.ref l == Value.none) = true then _ else _) _ _ s
  rw [if_neg (fun z => by revert z; exact Bool.false_ne_true : ¬ ((Value.ref l == Value.none) = true))]; show wpAny _ _ (field (.ref it) 1 >>= _) _ _ s
  refine wpAny_bind (wpAny_field ho hd (x := .int i 0) rfl ?_); show wpAny _ _ (seqItems? (.ref l) >>= _) _ _ s
  refine wpAny_bind (wpAny_seqItems hol hdl ?_)
  simp only [Int.toNat_natCast, hx]
  refine wpAny_bind (wpAny_rule (wpAny_bind (wpAny_setField ho hd (by simp) ?_))); show wpAny _ _ (newExc (.type "StopIteration") [] >>= _) _ _ _
  refine wpAny_bind ?_
  simp only [newExc, newTuple]
  refine wpAny_bind (wpAny_newObj_type ?_ (by size_fits)); refine wpAny_bind (m := firstArgMember _ _) (wpAny_of_eq (a := Value.none) (by first | rfl | (simp only [firstArgMember]; rfl)) ?_)
  refine wpAny_newObj_type ?_ (by size_fits)
  simp only [raiseNew]
  refine wpAny_bind (wpAny_handled ?_)
  first | rw [show A.in1.handled = none from hh] | rw [hh]
  refine wpAny_bind (wpAny_pure (wpAny_throw ?_))
  refine wpAny_bind (wpAny_isInstance (T := "StopIteration") (b := true) ⟨_, Heap.get?_push_size _ rfl, rfl⟩ isSubtype_stop (wpAny_pure (hQ _ (fun b ob hb e => ?_) ⟨_, Heap.get?_push_of_some _ (Heap.get?_push_of_some _ hup)⟩)))
  exact Heap.get?_push_of_some _ (Heap.get?_push_of_some _ ((Heap.get?_update_other _ _ (Ne.symm hb)).trans e))
/-- list.extend over it -/
theorem tit_loop {A1 : Around} {ys : List V} {Rs : Result → Shared → Prop} (hh : A1.handled = none) :
    ∀ (k i : Nat) (H : Hp) (s : Shared), ys.length - i = k → i ≤ ys.length → Inv X pins σ H s → H it = some (TitO l it i) → H l = some (.tup ys) → H S = some (.lst (ys.take i)) → ys.length < sizeLine →
      (∀ H2 s2, Inv X pins σ H2 s2 → (∀ b, b ≠ it → b ≠ S → H2 b = H b) → H2 S = some (.lst ys) → Rs (.ok (.ret .none)) s2) → codeAny (model X.prog X.w) A1 (.builtin "list.extend.loop" ⟨[.ref S, .ref it, .none], []⟩) Rs s := by
  intro k
  induction k with
  | zero =>
    intro i H s hk hi I h1 h2 h3 hz hR
    have hne : S ≠ it := ne_of h3 h1 (fun z => nomatch z)
    obtain ⟨its, rv, pl, _⟩ := I.tuple (SqT.of h2)
    refine codeAny_builtin PySem.F.entry_extend_loop ?_
    rw [Around.under_plainId PySem.F.plain_extend_loop _]
    show wpAny _ A1.in1 (pyNext (.ref it) >>= _) _ _ s
    have hno : (its.toArray)[i]? = none := by
      have := rv.length
      rw [List.getElem?_toArray, List.getElem?_eq_none_iff]
      omega
    refine wpAny_bind (tup_end hh (titO_get I h1) (show s.heap.IsTuple l its.toArray from pl) hno fun h' k' e' => wpAny_pure ?_)
    have J := I.write (t' := s.toks) (x := it) (e := it) (o := AnyO it) (by rw [h1]; exact True.intro) (.inl rfl) k' e' (anyO_ok e')
    refine hR _ _ J (fun b hb _ => upd_ne hb) ?_
    rw [upd_ne hne, h3, List.take_of_length_le (by omega)]
  | succ k ih =>
    intro i H s hk hi I h1 h2 h3 hz hR
    have hne : S ≠ it := ne_of h3 h1 (fun z => nomatch z)
    have hln : l ≠ it := ne_of h2 h1 (fun z => nomatch z)
    have hlS : l ≠ S := ne_of h2 h3 (fun z => nomatch z)
    obtain ⟨its, rv, pl, _⟩ := I.tuple (SqT.of h2)
    have hlen := rv.length
    have hlt : i < ys.length := by omega
    obtain ⟨u, hu, ru⟩ := rv.get (i := i) (x := ys[i]) (by simp [hlt])
    refine codeAny_builtin PySem.F.entry_extend_loop ?_
    rw [Around.under_plainId PySem.F.plain_extend_loop _]
    show wpAny _ A1.in1 (pyNext (.ref it) >>= _) _ _ s
    refine wpAny_bind (wpAny_pyNext_tuple_item (titO_get I h1) (show s.heap.IsTuple l its.toArray from pl) (x := u) (by rw [List.getElem?_toArray]; exact hu) fun h' hit hs => ?_)
    have J := I.write (t' := s.toks) (x := it) (e := it) (o := TitO l it (i + 1)) (by rw [h1]; exact True.intro) (.inl rfl) (fun b o hb e => hs.extBut b o hb e) ⟨_, hit.choose_spec.1⟩ (titO_ok hit)
    have h3' : upd H it (TitO l it (i + 1)) S = some (.lst (ys.take i)) := by rw [upd_ne hne]; exact h3
    show wpAny _ A1.in1 (updateSeq S (·.push u) >>= _) _ _ _
    obtain ⟨z, its3, n3, r3, hl3, e3⟩ := J.lstM h3'
    have hl4 : its3.length = i := by rw [← hl3, List.length_take]; omega
    refine wpAny_bind (wpAny_updateSeq e3 rfl (wpAny_pure ⟨plainId_quiet PySem.F.plain_extend_loop _, ?_⟩) (by rw [List.size_toArray]; omega) (by show (its3.toArray.push u).size ≤ sizeLine + 1; rw [Array.size_push, List.size_toArray]; omega))
    have et : ys.take (i + 1) = ys.take i ++ [ys[i]] := by rw [List.take_succ]; simp [hlt]
    have J2 := J.lset (f := (·.push u)) (its' := its3 ++ [u]) (t' := s.toks) (ys := ys.take (i + 1)) h3' e3 (by simp) (by rw [et]; exact r3.append (.cons ru .nil)) (by rw [List.length_take]; omega)
    refine ih (i + 1) _ _ (by omega) hlt J2 ?_ ?_ upd_same hz fun H2 s2 I2 k2 e2 => hR H2 s2 I2 (fun b hb hc => ?_) e2
    · rw [upd_ne (Ne.symm hne), upd_same]
    · rw [upd_ne hlS, upd_ne hln]; exact h2
    · rw [k2 b hb hc, upd_ne hc, upd_ne hb]
/-- what such a class must have -/
structure ItL (K : PySem.W.Frag) (C fi fl : Addr) : Prop where
  it : PySem.W.findIn K (.ref C) "__iter__" = some (some (.ref fi))
  itF : PySem.W.isFn K (.ref fi) = true
  ln : PySem.W.findIn K (.ref C) "__len__" = some (some (.ref fl))
  lnF : PySem.W.isFn K (.ref fl) = true

/-- list(o): its __iter__ gives a tuple's iterator, its __len__ a number -/
def rLstIt (C : Addr) (spI spL : Sp) (EI EL : XK) : List V → Hp → VK → Prop := fun xs H Q => ∃ a dx fs, xs = [.ref a] ∧ H a = some (.ins C dx fs) ∧ ∀ q, H q = none → q ≠ a →
  spI [.ref a] (upd H q (.lst [])) (fun v H1 => ∃ it l ys, v = .ref it ∧ H1 it = some (TitO l it 0) ∧ H1 l = some (.tup ys) ∧ H1 q = some (.lst []) ∧ H1 a = some (.ins C dx fs) ∧ ys.length < sizeLine ∧
    spL [.ref a] H1 (fun n H2 => H2 = H1 ∧ ∃ k : Int, n = .int k ∧ 0 ≤ k ∧ k < 1000) EL ∧ ∀ H2, (∀ b, b ≠ it → b ≠ q → H2 b = H1 b) → H2 q = some (.lst ys) → Q (.ref q) H2) EI
section
variable {X : Cx} {CI : CXT} {n : Nat} {C fi fl : Addr} {fdI fdL : FuncData} {psI psL : List Str} {spI spL : Sp} {EI EL : XK}
theorem call_at0 {f : Addr} {fd : FuncData} {ps : List Str} {sp : Sp} {E : XK} (G0 : FnOk X.prog X.w X.K X.mg X.base CX0 n f fd ps sp) (hb : Binds X.K fd ps []) {A : Around} (hr : Room n A) (hA : A.frames = X.A.frames)
    {pins : List (Addr × Obj)} {s : Shared} {σ : L2.St} {H : Hp} (I : Inv X pins σ H s) {vs : List V} {us : List Value} (r : Vals vs us) {Q : VK} {EE : Value → Shared → Prop} (h : sp vs H Q E) :
    wpAny (model X.prog X.w) A (call (.ref f) us) (EP X pins σ Q) EE s := by
  have e0 : Env0 X.prog X.w X.K X.mg X.base A X.stack s H := by
    have e := I.env0
    exact ⟨by rw [hA]; exact e.frames, e.mod, e.bs, e.bsz, e.funs, e.frf, e.hok, e.bare⟩
  have hl := G0.len _ _ _ _ h
  refine wpAny_call (codeAny_mono (G0.run A X.stack s H ⟨us, []⟩ us vs Q E hr e0 (by
    have := hb s us I.kIn (by rw [List.append_nil, ← r.length]; exact hl)
    simpa using this) r h) fun r s' hq => ?_)
  cases r with
  | error e => exact False.elim hq
  | ok fl =>
    cases fl with
    | ret w => exact I.after hq
    | next => exact False.elim hq
    | brk => exact False.elim hq
    | cont => exact False.elim hq
theorem call_listIt (hc : ItL X.K C fi fl) (FI : FnOk X.prog X.w X.K X.mg X.base CI n fi fdI psI spI) (bI : Binds X.K fdI psI []) (xI : Passes CI X EI)
    (FL : FnOk X.prog X.w X.K X.mg X.base CX0 n fl fdL psL spL) (bL : Binds X.K fdL psL []) (hr : Room (n + 4) X.A) : CallR X (.type "list") (rLstIt C spI spL EI EL) := by
  intro pins s σ H xs us Q I rv h
  obtain ⟨a, dx, fs, rfl, ha, hq⟩ := h
  obtain ⟨u, rfl, ru⟩ := rv.one
  cases ru
  have sb : Sub X (n + 2) X.A.in1.in1 := (Sub.in1 (Sub.in1 (⟨hr, rfl⟩ : Sub X (n + 4) X.A)))
  refine callType_codes (Q₁ := fun obj s₁ => obj = .ref s.heap.objs.size ∧ s₁ = { s with heap := s.heap.push { cls := .type "list", data := .seq #[] } }) PySem.F.called_list (PySem.F.typeCall_list_1 _) PySem.F.entry_list_init (code_list_new _ ⟨rfl, rfl⟩) fun obj s₁ h₁ => ?_
  obtain ⟨rfl, rfl⟩ := h₁
  have hS : (s.heap.push { cls := .type "list", data := .seq #[] }).get? s.heap.objs.size = some { cls := .type "list", data := .seq #[] } := Heap.get?_push_size _ rfl
  refine ⟨⟨_, hS, rfl⟩, PySem.F.args_list_init_2 _ _, ?_⟩
  have fr : H s.heap.objs.size = none := I.hok.fresh (Nat.le_refl _)
  have sp0 := hq _ fr (fun z => by rw [z, ha] at fr; cases fr)
  have I1 : Inv X pins σ (upd H s.heap.objs.size (.lst [])) { s with heap := s.heap.push { cls := .type "list", data := .seq #[] } } := I.lnew (its := []) (t' := s.toks) .nil (Nat.zero_le _)
  show wpAny _ _ (do let old ← Builtin.List.listItems (.ref s.heap.objs.size); Builtin.List.listUpdate (.ref s.heap.objs.size) (fun _ => #[]); letGo old.toList.reverse; Builtin.List.listExtendWith (.ref s.heap.objs.size) (.ref a) .none) _ _ _
  refine wpAny_bind ?_
  unfold Builtin.List.listItems
  refine wpAny_bind (wpAny_seqItems hS rfl (wpAny_pure ?_))
  show wpAny _ _ (updateSeq s.heap.objs.size (fun _ => #[]) >>= fun _ => letGo (#[] : Array Value).toList.reverse >>= fun _ => Builtin.List.listExtendWith (.ref s.heap.objs.size) (.ref a) .none) _ _ _
  refine wpAny_bind (wpAny_updateSeq hS rfl ?_)
  have I2 := I1.lset (f := fun _ => #[]) (its := []) (its' := []) (ys := []) (t' := s.toks) upd_same hS rfl .nil (Nat.zero_le _)
  rw [upd_upd] at I2
  refine wpAny_bind (wpAny_letGo ?_)
  have ha2 : upd H s.heap.objs.size (.lst []) a = some (.ins C dx fs) := by rw [upd_ne (ne_of_none ha fr)]; exact ha
  have hne : s.heap.objs.size ≠ a := fun z => by rw [z, ha] at fr; cases fr
  generalize hq0 : s.heap.objs.size = q at *
  generalize hH0 : upd H q (.lst []) = H0 at *
  obtain ⟨mA, J, _⟩ := ins_get I2.hok ha2
  obtain ⟨od, J, _⟩ := J.look
  obtain ⟨m0, hF⟩ := I2.fr
  unfold Builtin.List.listExtendWith
  refine wpAny_bind (J.type.here ?_)
  have h1 : Builtin.List.listSameRef (.ref q) (.ref a) = false := by simp [Builtin.List.listSameRef, hne]
  simp only [h1, (rfl : (Value.ref C == Value.type "list") = false), (rfl : (Value.ref C == Value.type "tuple") = false), Bool.or_false, Bool.false_eq_true, if_false]
  refine wpAny_bind (PySem.W.owit_iter hF I2.ok.mod.kin J hc.it hc.itF ?_)
  refine wpAny_mono (call_at FI bI xI (A := X.A.in1.in1) (sb.mono (by omega)).room sb.fr I2 (vs := [.ref a]) (.cons rfl .nil) sp0) (fun v s3 z => ?_) fun _ _ z => z
  obtain ⟨x, H1, I3, r3, it, l, ys, ex, e1, e2, e3, e4, hz, q1, q2⟩ := z
  subst ex
  obtain rfl : v = Value.ref it := r3
  have hit := titO_get I3 e1
  unfold PySem.W.OwitIt
  refine wpAny_specialOf (show s3.TypeIs (.ref it) "tuple_iterator" from hit.typeIs) PySem.F.slot_tuple_iterator_next.lookup ?_
  show wpAny _ _ _ _ _ s3
  refine wpAny_bind (wpAny_holding ?_)
  obtain ⟨mB, J3, _⟩ := ins_get I3.hok e4
  obtain ⟨od3, J3, _⟩ := J3.look
  obtain ⟨m3, hF3⟩ := I3.fr
  unfold Builtin.List.listLengthHint
  refine wpAny_bind (wpAny_bind (J3.type.here ((PySem.W.looks_findIn I3.kIn hc.ln).here ?_)))
  refine PySem.W.KFB.if_not rfl ?_
  refine PySem.W.KFB.if_so rfl ?_
  refine wpAny_bind (wpAny_rule (wpAny_bind (wpAny_attempt ?_)))
  refine PySem.W.len_K hF3 I3.ok.mod.kin J3 hc.ln hc.lnF (wpAny_mono (call_at0 FL bL (A := X.A.in1.in1.in1) (Sub.in1 (sb.mono (show n + 1 ≤ n + 2 by omega))).room sb.fr I3 (vs := [.ref a]) (.cons rfl .nil) q1) (fun v s4 z => ?_) fun _ _ z => z)
  obtain ⟨x, H2, I4, r4, eH, k0, ek, hk0, hk1⟩ := z
  subst ek
  subst eH
  obtain ⟨tk4, rfl⟩ := r4
  refine ⟨⟨hk0, by omega⟩, ?_⟩
  refine wpAny_bind (wpAny_of_eq (a := some k0) rfl ?_)
  show wpAny _ _ (if Builtin.List.listTooLong k0.toNat = true then _ else _) _ _ _
  refine PySem.W.KFB.if_not (notLongL (by rw [sizeLine_eq]; omega)) (wpAny_pure ?_)
  have I5 := I4.tok (s4.toks + 1)
  have hne1 : q ≠ it := ne_of e3 e1 (fun z => nomatch z)
  have go : ∀ s5, Inv X pins σ H2 s5 → codeAny (model X.prog X.w) X.A.in1 (.builtin "list.extend.loop" ⟨[.ref q, .ref it, .none], []⟩) (wants (fun r s₂ => r = .none ∧ EP X pins σ Q (.ref q) s₂) X.xe) s5 := fun s5 I6 =>
    tit_loop (A1 := X.A.in1) (Rs := wants (fun r s₂ => r = .none ∧ EP X pins σ Q (.ref q) s₂) X.xe) (show X.A.in1.handled = none from hr.hd) ys.length 0 H2 s5 (by omega) (Nat.zero_le _) I6 e1 e2 (by rw [List.take_zero]; exact e3) hz fun H7 s7 I7 k7 e7 => ⟨rfl, .ref q, H7, I7, rfl, q2 H7 k7 e7⟩
  refine wpAny_ite_split (fun _ => ?_) (fun _ => wpAny_pure ⟨plainId_quiet PySem.F.plain_extend_loop _, go _ I5⟩)
  refine wpAny_bind (wpAny_rule (wpAny_bind ?_))
  show wpAny _ _ (updateSeq q (·.push .none) >>= fun _ => updateSeq q (·.pop)) _ _ _
  obtain ⟨z, its, n5, r5, hl5, e5⟩ := I5.lstM e3
  cases r5
  refine wpAny_bind (wpAny_updateSeq e5 rfl ?_)
  have I6 := I5.lset (f := (·.push Value.none)) (its' := [Value.none]) (ys := [.non]) (t' := s4.toks + 1) e3 e5 (by simp) (.cons rfl .nil) (by rw [List.length_singleton, sizeLine_eq]; decide)
  obtain ⟨z6, its6, n6, r6, hl6, e6⟩ := I6.lstM upd_same
  obtain ⟨u6, rfl, ru6⟩ := r6.one
  refine wpAny_updateSeq e6 rfl (wpAny_pure ⟨plainId_quiet PySem.F.plain_extend_loop _, go _ ?_⟩) (by show 1 ≤ sizeLine; rw [sizeLine_eq]; decide) (by show 0 ≤ sizeLine + 1; exact Nat.zero_le _)
  have I7 := I6.lset (f := (·.pop)) (its := [u6]) (its' := []) (ys := []) (t' := s4.toks + 1) upd_same e6 (by rfl) .nil (Nat.zero_le _)
  rw [upd_upd] at I7
  have hH : upd H2 q (.lst []) = H2 := by
    funext b
    by_cases hb : b = q
    · rw [hb, upd_same, e3]
    · rw [upd_ne hb]
  rw [hH] at I7
  exact I7
end
end
end My
set_option maxRecDepth 100000
set_option maxHeartbeats 2000000
namespace My
open PySem PySem.Spec PyProof.Rows L2
/-! ### enumerate(t), t a tuple -/
theorem enum_new1 {v : Value} {o : Obj} {G : Heap → Prop} (B : Begins v o G) :
    Meets (Builtin.«enumerate.__new__» ⟨[.type "enumerate", v], []⟩) (fun _ R s => G s.heap ∧
      R (.ok (.ret (.ref (s.heap.push o).objs.size))) { s with heap := (s.heap.push o).push { cls := .type "enumerate", data := .fields #[.none, .bool false, .ref s.heap.objs.size, rawInt 0, .none, .none] } }) := by
  refine .of_wp fun prog w A R s h => ?_
  obtain ⟨hp, g, d, tk, os⟩ := s
  obtain ⟨h1, h⟩ := h
  have hsub := sub_enumerate
  have goB : ∀ {A' : Around} {E Q : Value → Shared → Prop}, Q (.ref hp.objs.size) ⟨hp.push o, g, d, tk, os⟩ → wpAny (model prog w) A' (pyIter v) Q E ⟨hp, g, d, tk, os⟩ := fun q => B.iter prog w _ _ ⟨hp, g, d, tk, os⟩ _ h1 q
  wp_walk using goB
  refine wpAny_stack_any fun st => wpAny_pure ?_
  split
  · rename_i c _ _ _ _ _
    cases (c == Value.type "enumerate") <;> (wp_walk using goB; exact ⟨_, rfl, h⟩)
  · wp_walk using goB
    exact ⟨_, rfl, h⟩
theorem call_enum1 {prog : Program} {w : World} {A : Around} {E : Value → Shared → Prop} {s : Shared} {v : Value} {o : Obj} {G : Heap → Prop} {Q : Value → Shared → Prop} (B : Begins v o G) (h1 : G s.heap)
    (h : ∀ h', IsEnum h' (s.heap.objs.size + 1) s.heap.objs.size 0 .none → h'.get? s.heap.objs.size = some o → (∀ b o, s.heap.get? b = some o → h'.get? b = some o) → Q (.ref (s.heap.objs.size + 1)) { s with heap := h' }) :
    wpAny (model prog w) A (call (.type "enumerate") [v]) Q E s := by
  refine callType_new PySem.F.called_enumerate (by decide) (PySem.F.typeCall_enumerate_1 _) (PySem.F.newCall_enumerate_1 _) (fun obj => PySem.F.args_object_init_2 obj _) PySem.F.entry_enumerate_new (enum_new1 B) ⟨h1, ?_⟩
  have hz : (s.heap.push o).objs.size = s.heap.objs.size + 1 := Heap.size_push ..
  show _ ∧ _
  rw [hz]
  have he : IsEnum ((s.heap.push o).push { cls := .type "enumerate", data := .fields #[.none, .bool false, .ref s.heap.objs.size, rawInt 0, .none, .none] }) (s.heap.objs.size + 1) s.heap.objs.size 0 .none := by
    have q := Heap.get?_push_size (s.heap.push o) (o := { cls := .type "enumerate", data := .fields #[.none, .bool false, .ref s.heap.objs.size, rawInt 0, .none, .none] }) rfl
    rwa [hz] at q
  exact ⟨⟨_, he, rfl⟩, h _ he (Heap.get?_push_of_some _ (Heap.get?_push_size _ B.free)) fun b o x => Heap.get?_push_of_some _ (Heap.get?_push_of_some _ x)⟩
def IteT (K : PySem.W.Frag) (a : Addr) : It :=
  ⟨fun i H => ∃ (xs : List V) (x : V), SqT K H a xs ∧ xs[i]? = some x, fun i H v H' => ∃ T x, v = .ref T ∧ H T = none ∧ H' = upd H T (.tup [.int (i : Nat), x]) ∧ ∀ xs, SqT K H a xs → xs[i]? = some x, fun i H => ∃ xs : List V, SqT K H a xs ∧ xs.length ≤ i⟩
theorem turn_enumT {P : Program} {w : World} {K : PySem.W.Frag} {elts : List Expr} {kk : Nat} {tpos : Pos} (a e it : Addr) (hae : a ≠ e) (hai : a ≠ it) :
    Turn P w K (.Tuple elts kk tpos) (IteT K a) [e, it] e (fun i h => (∃ old, IsEnum h e it ((i : Nat) : Int) old) ∧ h.IsTupleIter it a i ∧ e ≠ it) where
  mem := by simp
  obj := fun i h st b hb => by
    obtain ⟨⟨old, he⟩, ⟨o, ho, hc, hd⟩, _⟩ := st
    have e' : b = e ∨ b = it := by simpa using hb
    rcases e' with z | z
    · rw [z]; exact ⟨_, he, fun v q => nomatch q⟩
    · rw [z]; exact ⟨o, ho, fun v q => by rw [hd] at q; cases q⟩
  keep := fun i h h' st k => let ⟨⟨old, he⟩, hi, hne⟩ := st; ⟨⟨old, k e (by simp) _ he⟩, hi.at fun o q => k it (by simp) o q, hne⟩
  item := by
    intro X hP hw hK hc i pins s σ H E I hf st hg
    subst hP hw hK
    obtain ⟨⟨old, he⟩, hit, hne⟩ := st
    obtain ⟨xs, x, hq, hx⟩ := hg
    obtain ⟨its, rv, p, hz⟩ := I.tuple hq
    obtain ⟨u, hu, ru⟩ := rv.get hx
    have hel : e < s.heap.objs.size := Heap.lt_size he
    have hil : it < s.heap.objs.size := by obtain ⟨_, q, _⟩ := hit; exact Heap.lt_size q
    have hlt : i < its.toArray.size := by rw [List.size_toArray]; exact (List.getElem?_eq_some_iff.mp hu).1
    refine wpAny_pyNext_enum_itemD (Draws.tuple (A := X.A.in1) (show X.A.in1.handled = none from I.ok.hd hc) it a hai its.toArray) he ⟨hit, p⟩ hlt hne (by simp [hne, Ne.symm hae]) fun x1 h' tk px ho st' hT hsz hk => ?_
    obtain ⟨hit', _⟩ := st'
    have ex1 : x1 = u := by
      rw [List.getElem?_toArray, hu] at px
      exact (Option.some.inj px).symm
    subst ex1
    refine ⟨_, rfl, wpAny_letOwnedTupleGo_enum (s := { s with heap := h', toks := tk + 1 }) ho fun h'' he' sb => ?_⟩
    have hT2 : h''.get? s.heap.objs.size = some { cls := .type "tuple", data := .seq #[.int i tk, x1] } := (sb.2 _ (Nat.ne_of_gt hel)).trans hT
    have new : ObjOk X.prog X.w (upd H s.heap.objs.size (.tup [.int (i : Nat), x])) h'' s.heap.objs.size (.tup [.int (i : Nat), x]) :=
      ⟨by show 2 ≤ sizeLine; decide, [.int i tk, x1], .cons ⟨_, rfl⟩ (.cons ru .nil), ⟨_, hT2, rfl, _, rfl⟩⟩
    have I1 : Inv X pins σ (upd H s.heap.objs.size (.tup [.int (i : Nat), x])) { s with heap := h'', toks := tk + 1 } :=
      I.turnedNew (ch := [e, it]) (fun b ob hb q => (sb.2 b (fun z => hb (by simp [z]))).trans (hk b ob (fun z => hb (by simp [z])) (fun z => hb (by simp [z])) q)) hf (Nat.le_refl _) new
    refine ⟨.ref s.heap.objs.size, _, I1, rfl, ⟨_, x, rfl, I.hok.fresh (Nat.le_refl _), rfl, fun ys hy => by rw [I.tuple_inj hy hq]; exact hx⟩, ⟨⟨x1, ?_⟩, hit'.at fun o q => (sb.2 it (Ne.symm hne)).trans q, hne⟩, fun b hb => ?_⟩
    · rw [show ((i + 1 : Nat) : Int) = (i : Int) + 1 by omega]; exact he'
    · have hb' : b < s.heap.objs.size := by
        rcases (by simpa using hb : b = e ∨ b = it) with z | z
        · rw [z]; exact hel
        · rw [z]; exact hil
      rw [upd_ne (Nat.ne_of_lt hb')]; exact (hf b hb).1
  done := by
    intro X hP hw hK hc i pins s σ H E I hf st hg
    subst hP hw hK
    obtain ⟨⟨old, he⟩, hit, hne⟩ := st
    obtain ⟨xs, hq, hx⟩ := hg
    obtain ⟨its, rv, p, hz⟩ := I.tuple hq
    obtain ⟨f0, f1, f2, f3, f4, f5⟩ := hf it (by simp)
    have hl := rv.length
    have hno : (its.toArray)[i]? = none := by rw [List.getElem?_toArray, List.getElem?_eq_none_iff]; omega
    have D : Draws X.prog X.w X.A.in1 it [it, a] i (fun _ _ => True) (fun j h => j = i ∧ h.IsTupleIter it a i ∧ h.IsTuple a its.toArray) :=
      ⟨fun _ _ st => ⟨_, st.2.1.choose_spec.1⟩, fun _ _ _ st hk => ⟨st.1, st.2.1.at fun o q => hk it (by simp) o q, st.2.2.at fun o q => hk a (by simp) o q⟩,
        fun j s Q E hj st _ => absurd st.1 (Nat.ne_of_lt hj), fun s Q E st hE => wpAny_nextOf_tuple_end (show X.A.in1.handled = none from I.ok.hd hc) st.2.1 st.2.2 hno hE⟩
    exact wpAny_pyNext_enum_endD D he ⟨rfl, hit, p⟩ fun h' eb => ⟨rfl, I.turned (t' := s.toks) (fun b o hb q => eb b o hb q) f0 f1 f3 f4 f5⟩
  self := fun A i s Q E st h => let ⟨⟨_, he⟩, _⟩ := st; wpAny_pyIter_enum he h
def iEnumT (K : PySem.W.Frag) (ta : TA) : TI := fun σ H R => ta σ H fun vs H1 => ∃ a xs, vs = [.ref a] ∧ SqT K H1 a xs ∧ R (IteT K a) H1
theorem pi_enumT {X : Cx} {e : Expr} {ta : TA} {p pos tpos : Pos} {elts : List Expr} {kk : Nat} (hg : Gl X "enumerate") (hm : X.mg "enumerate" = none) (ha : PA X [e] ta) (hs : starEach [e] X.env = [(false, eval e X.env)] := by rfl) :
    PI X (.Tuple elts kk tpos) (.Call (.Name "enumerate" p) [e] [] pos) (iEnumT X.K ta) := by
  refine ⟨fun pins s σ H R I h => ?_⟩
  refine Call_ (ld_blt I hg hm boot_enumerate (PyProof.Rows.callWith_type1 (thn (ha.run pos pins s σ H _ I h) fun us s1 ⟨vs, H1, I1, r1, a, xs, ex, hq, q⟩ => ?_) hs rfl))
  subst ex
  obtain rfl := Vals.ref1 r1
  obtain ⟨its, rv, p', hz⟩ := I1.tuple hq
  have hal : a < s1.heap.objs.size := by obtain ⟨_, z, _⟩ := p'; exact Heap.lt_size z
  refine call_enum1 (begins_tuple a its.toArray) (show s1.heap.IsTuple a its.toArray from p') fun h' he hit hk => wpAny_pyIter_enum he ?_
  have I2 : Inv X pins σ H1 { s1 with heap := h' } := I1.kept (t' := s1.toks) hk
  refine ⟨s1.heap.objs.size + 1, [s1.heap.objs.size + 1, s1.heap.objs.size], _, _, H1, rfl, I2, turn_enumT a (s1.heap.objs.size + 1) s1.heap.objs.size (Nat.ne_of_lt (Nat.lt_succ_of_lt hal)) (Nat.ne_of_lt hal), ⟨⟨.none, he⟩, ⟨_, hit, rfl, rfl⟩, Nat.succ_ne_self _⟩, fun b hb => ?_, q⟩
  have hle : s1.heap.objs.size ≤ b := by
    rcases (by simpa using hb : b = s1.heap.objs.size + 1 ∨ b = s1.heap.objs.size) with z | z
    · rw [z]; exact Nat.le_add_right _ _
    · rw [z]; exact Nat.le_refl _
  exact I1.fpOk hle (I1.hok.fresh hle)
theorem walk_enumT {K : PySem.W.Frag} {a : Addr} {xs : List V} : Walk (IteT K a) xs.length (fun H => SqT K H a xs) (YPair (fun i => some (.int (i : Nat))) (fun i => xs[i]?)) := by
  refine ⟨fun i _ hi q => ⟨xs, xs[i], q, by simp [hi]⟩, fun _ q => ⟨xs, q, Nat.le_refl _⟩, fun i H v H' _ q y => ?_⟩
  obtain ⟨T, x, h1, h2, h3, h4⟩ := y
  exact ⟨T, .int (i : Nat), x, h1, h2, h3, rfl, h4 xs q⟩
end My
set_option maxRecDepth 100000
namespace My
open PySem L2
section
variable {X : Cx}
/-- xs.count(y), flat items -/
def rCntF (K : PySem.W.Frag) : V → List V → Hp → VK → Prop := fun x xs H Q => ∃ (a : Addr) (ys : List V) (y : V), x = .ref a ∧ xs = [y] ∧ SqL K H a ys ∧ flatV y = true ∧ ys.all flatV = true ∧ Q (.int (ys.countP (fun z => eqV z y) : Nat)) H
theorem count_eqU {y : V} : ∀ {ys : List V} {us : List Value}, Vals ys us → ys.all flatV = true → us.countP (eqU y) = ys.countP (fun z => eqV z y)
  | _, _, .nil, _ => rfl
  | z :: ys, u :: us, .cons r t, f => by
    rw [List.all_cons, Bool.and_eq_true] at f
    rw [List.countP_cons, List.countP_cons, count_eqU t f.2, eqU_of r f.1]
theorem mt_fcount : MtR X "list.count" (rCntF X.K) := by
  intro pins s σ H x xs v us Q I rx rxs h
  obtain ⟨a, ys, y, rfl, rfl, hs, fy, fys, q⟩ := h
  cases rx
  cases rxs with
  | cons ry rt =>
    rename_i uy ut
    cases rt
    obtain ⟨its, rv, ⟨⟨cls, dd, data, sl⟩, n, ho, hc, hdn, hd⟩, hlen⟩ := I.list hs
    simp only at hc hd
    subst hc hd
    refine call_meets PySem.F.slot_list_count ⟨_, ho, rfl⟩ PySem.F.entry_list_count (PySem.F.args_list_count_2 _ _)
      (SeqAt.list_countAt a its.toArray n dd sl uy (eqU y)) ⟨ho, fun u' hu' => mem_eqAt ry fy rv fys u' (by simpa using hu'), ?_⟩
    have ec : its.toArray.toList.countP (eqU y) = ys.countP (fun z => eqV z y) := count_eqU rv fys
    refine ⟨.int (ys.countP (fun z => eqV z y) : Nat), H, I.tok _, ⟨s.toks, ?_⟩, q⟩
    rw [← ec]
end
end My
set_option maxRecDepth 100000
set_option maxHeartbeats 4000000
namespace PySem.SeqAt
open PySem PySem.Spec PyProof.Rows
/-- tuple's own __lt__, called as sorting calls it -/
theorem call_tuple_lt {prog : Program} {w : World} {A : Around} {s : Shared} {E : Value → Shared → Prop} {Q : Value → Shared → Prop} {l b : Addr} {items items2 : Array Value} {e r : Nat → Bool} (hl : s.heap.IsTuple l items) (hb : s.heap.IsTuple b items2)
    (he : ∀ j (h1 : j < items.size) (h2 : j < items2.size), EqAt A.in1 s items[j] items2[j] (e j)) (hr : ∀ j (h1 : j < items.size) (h2 : j < items2.size), e j = false → RcLt A.in1 s items[j] items2[j] (r j))
    (h : Q (.bool (firstLt e r (decide (items.size < items2.size)) (List.range (min items.size items2.size)))) s) : wpAny (model prog w) A (call (.builtin "tuple.__lt__") [.ref l, .ref b]) Q E s := by
  obtain ⟨⟨cls, dd, data, sl⟩, ho, hc, n, hd⟩ := id hl
  obtain ⟨⟨cls2, dd2, data2, sl2⟩, ho2, hc2, n2, hd2⟩ := id hb
  simp only at hc hd hc2 hd2
  subst hc hd hc2 hd2
  exact call_meets F.slot_tuple_lt ⟨_, ho, rfl⟩ F.entry_tuple_lt (F.args_tuple_lt_2 _ _) (tuple_ltAt l b items items2 n n2 dd dd2 sl sl2 e r) ⟨ho, ho2, he, hr, h⟩
end PySem.SeqAt
namespace PySem.W
open PySem PySem.Calls PyProof.Rows PySem.SeqAt
abbrev encT (b : List Int) : PyData := .tuple (b.map .int)
abbrev encL (b : List Int) : PyData := .list (b.map .int)
section
variable {prog : Program} {w : World} {A : Around} {E : Value → Shared → Prop} {s : Shared}
theorem oneLt_tup {xs ys : List PyData} {a b : Value} {as bs : List Addr} {Q : Bool → Shared → Prop} (ra : Reads s.heap a (.tuple xs) as) (rb : Reads s.heap b (.tuple ys) bs) (hal : alikeAll xs ys = true)
    (hu : A.units + min (PyData.depth (.tuple xs)) (PyData.depth (.tuple ys)) < cLine) (hq : Q (dataLt (.tuple xs) (.tuple ys)) s) : wpAny (model prog w) A (oneLt' true a b) Q E s := by
  cases ra with
  | @tuple l o vs n _ as₁ h1 h2 h3 h4 =>
    cases rb with
    | @tuple l' o' vs' n' _ bs₁ k1 k2 k3 k4 =>
      have n1 : vs.size = xs.length := by simpa using ReadsAll.length _ _ _ h4
      have n2 : vs'.size = ys.length := by simpa using ReadsAll.length _ _ _ k4
      rw [dataLt_tuple, ← firstLt_toks xs ys hal, ← n1, ← n2] at hq
      rw [oneLt'_eq]
      simp only [if_true]
      refine wpAny_bind (wpAny_cRoomFor (room_here hu) ?_)
      refine wpAny_bind (wpAny_callSpecialIfBound?_slot (T := "tuple") ⟨_, h1, h2⟩ F.slot_tuple_lt (call_tuple_lt (e := pairEq xs ys) (r := fun j => dataLt (xs.getD j .none) (ys.getD j .none)) ⟨_, h1, h2, _, h3⟩ ⟨_, k1, k2, _, k3⟩ (fun j j1 j2 => ?_) (fun j j1 j2 hj => ?_) ?_))
      · have := eqAt_alikeAll xs ys A.in1 s vs.toList vs'.toList _ _ h4 k4 hal (room_in hu) j (by simpa using j1) (by simpa using j2)
        simpa using this
      · have := rcLt_alikeAll xs ys A.in1 s vs.toList vs'.toList _ _ h4 k4 hal (room_in hu) j (by simpa using j1) (by simpa using j2) hj
        simpa using this
      · exact wpAny_truthy_bool hq
end
/-! ### which kind of keys tuples of ints are -/
section
variable {M : Model} {A : Around} {E : Value → Shared → Prop} {s : Shared}
theorem tup_firsts : ∀ (vs : List Value) (bs : List (List Int)) {Q : List (Option Value) → Shared → Prop}, EachIs (fun v b => ∃ as, Reads s.heap v (encT b) as) vs bs → (∀ fs : List (Option Value), EachIs (fun f b => f.isSome = !b.isEmpty) fs bs → Q fs s) → wpAny M A (vs.mapM firstOfTuple') Q E s
  | [], [], _, _, h => by rw [List.mapM_nil]; exact wpAny_pure (h [] .nil)
  | [], _ :: _, _, e, _ => nomatch e
  | _ :: _, [], _, e, _ => nomatch e
  | v :: vs, b :: bs, Q, .cons ⟨as, r⟩ e, h => by
    rw [List.mapM_cons]
    refine wpAny_bind ?_
    rw [kas_first_eq]
    cases r with
    | @tuple a o xs n _ _ ho hc hd hr =>
      refine wpAny_bind (Looks.here (show Looks M s.heap (typeOf (.ref a)) o.cls from (Looks.ld ho).andThen .now) ?_)
      rw [hc, if_neg (by first | decide | simp)]
      refine wpAny_bind (listItems_at ho hd (wpAny_pure ?_))
      refine wpAny_bind (tup_firsts vs bs (Q := fun fs s' => wpAny M A (pure (xs[0]? :: fs)) Q E s') e fun fs hf => wpAny_pure (h _ (.cons ?_ hf)))
      have hl := SeqAt.ReadsAll.length _ _ _ hr
      rw [List.length_map] at hl
      have hl : xs.size = b.length := by simpa using hl
      cases b with
      | nil => rw [Array.getElem?_eq_none (by rw [hl]; exact Nat.zero_le _)]; rfl
      | cons x t => rw [Array.getElem?_eq_getElem (by rw [hl]; exact Nat.succ_pos _)]; rfl
theorem tup_kind {vs : List Value} {bs : List (List Int)} {Q : SortKind → Shared → Prop} (e : EachIs (fun v b => ∃ as, Reads s.heap v (encT b) as) vs bs) {b0 : List Int} {bt : List (List Int)} (hb : bs = b0 :: bt) (hne : [] ∈ bs)
    (h : Q (if b0.isEmpty then oneType' else general') s) : wpAny M A (keyKind' vs.toArray) Q E s := by
  rw [keyKind'_eq, List.mapM_toArray, map_eq_pure_bind]
  refine wpAny_bind (wpAny_bind (tup_firsts vs bs e fun fs hf => wpAny_pure ?_))
  have hall : ¬ (fs.toArray.all fun x => x.isSome) = true := fun z => by
    simp only [List.all_toArray, List.all_eq_true] at z
    have : ∀ {fs : List (Option Value)} {bs : List (List Int)}, EachIs (fun f b => f.isSome = !b.isEmpty) fs bs → (∀ f ∈ fs, f.isSome = true) → [] ∉ bs := by
      intro fs bs hf
      induction hf with
      | nil => intro _ h; cases h
      | cons h t ih =>
        intro z hm
        rcases List.mem_cons.mp hm with hm | hm
        · subst hm
          have := z _ List.mem_cons_self
          rw [h] at this
          cases this
        · exact ih (fun f hf => z f (List.mem_cons_of_mem _ hf)) hm
    exact this hf z hne
  rw [if_neg hall]
  subst hb
  cases hf with
  | @cons f _ ft _ h0 ht =>
  have e0 : ((f :: ft).toArray[0]?.bind id) = f := by simp
  rw [e0]
  cases b0 with
  | cons x t =>
    have h0 : f.isSome = true := h0
    rw [if_pos h0]
    exact wpAny_pure h
  | nil =>
    have h0 : f.isSome = false := h0
    rw [if_neg (by rw [h0]; decide)]
    rw [oneTypeOnly'_eq, List.mapM_toArray, map_eq_pure_bind]
    have tk : ∀ {vs : List Value} {bs : List (List Int)}, EachIs (fun v b => ∃ as, Reads s.heap v (encT b) as) vs bs → ∀ v ∈ vs, Looks M s.heap (typeOf v) (.type "tuple") := by
      intro vs bs e
      induction e with
      | nil => intro v hv; cases hv
      | cons h t ih =>
        intro v hv
        rcases List.mem_cons.mp hv with rfl | hv
        · obtain ⟨as, r⟩ := h
          exact looks_reads r
        · exact ih v hv
    refine wpAny_bind (wpAny_bind (wpAny_bind (kas_mapM (r := Value.type "tuple") _ (fun v hv Q' hq => (tk e v hv).here hq) (wpAny_pure ?_))))
    have hlen : 0 < vs.length := by rw [e.length]; exact Nat.succ_pos _
    have hall2 : ((List.map (fun _ => Value.type "tuple") vs).toArray.all fun x => x == Value.type "tuple") = true := by
      simp only [List.all_toArray, List.all_map, List.all_eq_true]
      intro _ _
      exact beq_self_eq_true _
    have h00 : (List.map (fun _ => Value.type "tuple") vs).toArray[0]? = some (Value.type "tuple") := by
      cases vs with
      | nil => cases hlen
      | cons a t => simp
    rw [h00]
    simp only [hall2, if_true]
    exact wpAny_pure (wpAny_pure h)
end
section
variable {prog : Program} {w : World} {A : Around} {E : Value → Shared → Prop} {s : Shared}
theorem alike_encT (b b' : List Int) : alike (encT b) (encT b') = true := by
  show alikeAll _ _ = true
  exact alike_ints b b'
theorem depth_encT (b : List Int) : (encT b).depth = 1 := by
  show PyData.depth (.tuple _) = 1
  simp only [PyData.depth]
  rw [depth_ints]
theorem SortsAt.tupI {vs : List Value} {bs : List (List Int)} (e : EachIs (fun v b => ∃ as, Reads s.heap v (encT b) as) vs bs) (hu : A.units + 2 < cLine) : SortsAt prog w A s (dataKind s.heap (bs.map encT)) vs := by
  have e' := each_map (R := fun v d => ∃ as, Reads s.heap v d as) encT e
  have hal : AllAlike (bs.map encT) := AllAlike.of fun b b' => alike_encT b b'
  have hd : ∀ d ∈ bs.map encT, A.units + d.depth < cLine := fun d hd => by
    obtain ⟨b, _, rfl⟩ := List.mem_map.mp hd
    rw [depth_encT]; omega
  by_cases hne : [] ∈ bs
  · cases bs with
    | nil => cases hne
    | cons b0 bt =>
    refine ⟨fun v hv => ?_, ⟨_, ?_, fun h2 E Q hq => tup_kind e rfl hne hq⟩⟩
    · obtain ⟨d, hd, as, r⟩ := e'.left v hv
      exact ⟨_, dataKind_some hal hd r⟩
    · intro E x y a b Q ha hb hq
      obtain ⟨d, as, hd1, ra, rfl⟩ := dataKind_inv ha
      obtain ⟨d', as', hd', rb, rfl⟩ := dataKind_inv hb
      have hq : Q (dataLt d d') s := hq
      obtain ⟨c, _, rfl⟩ := List.mem_map.mp hd1
      obtain ⟨c', _, rfl⟩ := List.mem_map.mp hd'
      have hroom : A.units + min (encT c).depth (encT c').depth < cLine := by rw [depth_encT, depth_encT]; omega
      split
      · rw [keyLt'_oneType]
        exact oneLt_tup ra rb (alike_ints c c') hroom hq
      · show wpAny _ _ (oneLt' false x y) _ _ _
        exact oneLt_alike (fun z => nomatch z) ra rb (alike_encT c c') (fun z => nomatch z) hroom hq
  · exact SortsAt.data e' hal (.inl fun d hd => by
      obtain ⟨b, hb, rfl⟩ := List.mem_map.mp hd
      cases b with
      | nil => exact absurd hb hne
      | cons x t => exact ⟨_, _, rfl⟩) hd
theorem dataLe_encT : dataLe false encT = fun p q : List Int => decide (p ≤ q) := by
  rw [← dataLe_rows (fun b : List Int => b)]
  funext p q
  show (!dataLt (encT q) (encT p)) = !dataLt (encL q) (encL p)
  rw [show dataLt (encT q) (encT p) = dataLt (encL q) (encL p) from (dataLt_tuple _ _).trans (dataLt_list _ _).symm]
/-- sorted of tuples of ints, empty ones among them -/
theorem sorted_tupsI {l : Addr} {vs : List Value} {bs : List (List Int)} {R : Value → List Int → Prop} {Q : Value → Shared → Prop} (hl : s.heap.IsList l vs.toArray) (e : EachIs R vs bs) (er : EachIs (fun v b => ∃ as, Reads s.heap v (encT b) as) vs bs) (hL : bs.length ≤ sizeLine)
    (hu : A.units + 4 < cLine) (h : ∀ out, out.length = bs.length → EachIs R out (bs.mergeSort fun p q => decide (p ≤ q)) → Q (.ref (s.heap.objs.size + 1)) { s with heap := sortedAll s.heap vs (List.toArray out) }) :
    wpAny (model prog w) A (call (.builtin "sorted") [.ref l]) Q E s := by
  have er' : EachIs (fun v b => ∃ as, Reads (sortingHeap (copyHeap s.heap vs) (s.heap.objs.size + 1) vs) v (encT b) as) vs bs := er.mono fun _ _ ⟨as, r⟩ => ⟨as, PyProof.Rows.Reads.keeps (fun _ _ => sorting_copy_old) r⟩
  refine sorted_vals hl (SortsAt.tupI (s := { s with heap := sortingHeap (copyHeap s.heap vs) (s.heap.objs.size + 1) vs }) er' (by show A.units + 1 + 1 + 2 < cLine; omega)) (by rw [e.length]; exact hL) ?_
  refine h _ (by rw [sortVals_length false rfl]; exact e.length) ?_
  have := sortVals_data false e er' (AllAlike.of fun b b' => alike_encT b b')
  rw [dataLe_encT] at this
  exact this
end
end PySem.W
namespace L2
open PySem PySem.Spec PyProof.Rows PySem.W
theorem vals_each {Rv : V → List Int → Prop} : ∀ {xs : List V} {us : List Value} {bs : List (List Int)}, Vals xs us → EachIs Rv xs bs → EachIs (fun v b => ∃ x, RelV x v ∧ Rv x b) us bs
  | _, _, _, .nil, .nil => .nil
  | _, _, _, .cons r t, .cons h e => .cons ⟨_, r, h⟩ (vals_each t e)
theorem each_vals {Rv : V → List Int → Prop} : ∀ {us : List Value} {bs : List (List Int)}, EachIs (fun v b => ∃ x, RelV x v ∧ Rv x b) us bs → ∃ ys, Vals ys us ∧ EachIs Rv ys bs
  | _, _, .nil => ⟨[], .nil, .nil⟩
  | _, _, .cons ⟨x, r, h⟩ e => let ⟨ys, a, b⟩ := each_vals e; ⟨x :: ys, .cons r a, .cons h b⟩
def rSortD (K : PySem.W.Frag) (enc : List Int → PyData) : List V → Hp → VK → Prop := fun vs H Q => ∃ (a : Addr) (xs : List V) (bs : List (List Int)) (Rv : V → List Int → Prop), vs = [.ref a] ∧ SqL K H a xs ∧ EachIs Rv xs bs ∧ (∀ x b, Rv x b → Dp K H x (enc b)) ∧
  ∀ ys p, EachIs Rv ys (bs.mergeSort fun p q => decide (p ≤ q)) → H p = none → Q (.ref p) (upd H p (.lst ys))
section
variable {X : Cx}
theorem cr_sortTI (hu : X.A.units + 10 < cLine) : CallR X (.builtin "sorted") (rSortD X.K encT) := by
  intro pins s σ H vs us Q I r h
  obtain ⟨a, xs, bs, Rv, rfl, hs, hx, hd, q⟩ := h
  obtain ⟨its, rv, hl, hz⟩ := I.list hs
  obtain ⟨u, rfl, ru⟩ := vals1 r
  obtain rfl : u = Value.ref a := ru
  have e := vals_each rv hx
  have er : EachIs (fun v b => ∃ as, Reads s.heap v (encT b) as) its bs := e.mono fun v b ⟨x, rx, hr⟩ => Dp.reads I _ _ _ (hd x b hr) rx
  have hbl : bs.length = its.length := e.length.symm
  refine sorted_tupsI hl.isList e er (by rw [hbl, ← rv.length]; exact hz) (by omega) fun out ho eo => ?_
  obtain ⟨ys, vy, ey⟩ := each_vals eo
  obtain ⟨ep, he'⟩ := PyProof.Rows.sortedAll_at s.heap its (List.toArray out)
  have hlen : ys.length ≤ sizeLine := by rw [vy.length, ho, hbl, ← rv.length]; exact hz
  exact ⟨.ref _, upd H (s.heap.objs.size + 1) (.lst ys), I.laid (t' := s.toks) (fun _ _ => PyProof.Rows.sortedAll_old) (Nat.le_succ _) ⟨hlen, out, ep, vy, he'⟩, rfl, q _ _ ey (I.hok.fresh (Nat.le_succ _))⟩
theorem cr_sortLI (hu : X.A.units + 10 < cLine) : CallR X (.builtin "sorted") (rSortD X.K encL) := by
  intro pins s σ H vs us Q I r h
  obtain ⟨a, xs, bs, Rv, rfl, hs, hx, hd, q⟩ := h
  obtain ⟨its, rv, hl, hz⟩ := I.list hs
  obtain ⟨u, rfl, ru⟩ := vals1 r
  obtain rfl : u = Value.ref a := ru
  have e := vals_each rv hx
  have er : EachIs (fun v b => ∃ as, Reads s.heap v (encL b) as) its bs := e.mono fun v b ⟨x, rx, hr⟩ => Dp.reads I _ _ _ (hd x b hr) rx
  have hbl : bs.length = its.length := e.length.symm
  refine sorted_data hl.isList e er (AllAlike.of fun b b' => by show alikeAll _ _ = true; exact alike_ints b b') (Sortable.others fun b => ⟨fun z => (nomatch z), fun _ z => (nomatch z)⟩) (by rw [hbl, ← rv.length]; exact hz) (fun b _ => ?_) fun out ho eo => ?_
  · have : (encL b).depth = 1 := by show PyData.depth (.list _) = 1; simp only [PyData.depth]; rw [depth_ints]
    omega
  rw [show dataLe false encL = fun p q : List Int => decide (p ≤ q) from dataLe_rows (fun b : List Int => b)] at eo
  obtain ⟨ys, vy, ey⟩ := each_vals eo
  obtain ⟨ep, he'⟩ := PyProof.Rows.sortedAll_at s.heap its (List.toArray out)
  have hlen : ys.length ≤ sizeLine := by rw [vy.length, ho, hbl, ← rv.length]; exact hz
  exact ⟨.ref _, upd H (s.heap.objs.size + 1) (.lst ys), I.laid (t' := s.toks) (fun _ _ => PyProof.Rows.sortedAll_old) (Nat.le_succ _) ⟨hlen, out, ep, vy, he'⟩, rfl, q _ _ ey (I.hok.fresh (Nat.le_succ _))⟩
end
end L2
set_option maxRecDepth 100000
set_option maxHeartbeats 4000000
namespace My
open PySem L2 PySem.Spec PyProof.Rows
section
variable {X : Cx} {CX : CXT} {n : Nat} {f C : Addr} {fd : FuncData} {ps : List Str} {sp : Sp}
/-- a promise that may raise, called anywhere in the running body -/
theorem call_atS {σ : L2.St} {E : XK} (G0 : FnOk X.prog X.w X.K X.mg X.base CX n f fd ps sp) (hb : Binds X.K fd ps []) (hx : PassesAt CX X σ E) {A : Around} (hr : Room n A) (hA : A.frames = X.A.frames)
    {pins : List (Addr × Obj)} {s : Shared} {H : Hp} (I : Inv X pins σ H s) {vs : List V} {us : List Value} (r : Vals vs us) {Q : VK} (h : sp vs H Q E) :
    wpAny (model X.prog X.w) A (call (.ref f) us) (EP X pins σ Q) X.xe s := by
  have e0 : Env0 X.prog X.w X.K X.mg X.base A X.stack s H := by
    have e := I.env0
    exact ⟨by rw [hA]; exact e.frames, e.mod, e.bs, e.bsz, e.funs, e.frf, e.hok, e.bare⟩
  have hl := G0.len _ _ _ _ h
  refine wpAny_call (codeAny_mono (G0.run A X.stack s H ⟨us, []⟩ us vs Q E hr e0 (by
    have := hb s us I.kIn (by rw [List.append_nil, ← r.length]; exact hl)
    simpa using this) r h) fun r s' hq => ?_)
  cases r with
  | error e => exact hx pins H s e s' I hq
  | ok fl =>
    cases fl with
    | ret w => exact I.after hq
    | next => exact False.elim hq
    | brk => exact False.elim hq
    | cont => exact False.elim hq
/-- a[b], a an instance of the class at C with its own __getitem__ -/
def tIxOwn (C : Addr) (sp : Sp) (E : L2.St → XK) (ta tb : TE) : TE := fun σ H Q => ta σ H fun x H1 => tb σ H1 fun y H2 => ∃ p dx fs, x = .ref p ∧ H2 p = some (.ins C dx fs) ∧ sp [.ref p, y] H2 Q (E σ)
theorem pe_ixOwn {a b : Expr} {ta tb : TE} {pos : Pos} {E : L2.St → XK} (G0 : FnOk X.prog X.w X.K X.mg X.base CX n f fd ps sp) (hb : Binds X.K fd ps []) (hx : ∀ σ, PassesAt CX X σ (E σ)) (hr : Room (n + 1) X.A)
    (hs : PySem.W.findIn X.K (.ref C) "__getitem__" = some (some (.ref f))) (hf : PySem.W.fnIn X.K f = true) (hfn : PySem.W.isFn X.K (.ref f) = true) (ha : PE X a ta) (hbb : PE X b tb)
    (hsl : ∀ x i, subscripted b true (.ref x) i = runValue (.builtin "lifetime.subscript" ⟨[.ref x, i], []⟩)) : PE X (.Subscript a b pos) (tIxOwn C sp E ta tb) := by
  refine ⟨fun pins s σ H Q I h => ?_⟩
  refine Subscript_ (binT ha hbb I h fun v u s2 x y H2 I2 rx ry q => ?_)
  obtain ⟨p, dx, fs, rfl, hp, q⟩ := q
  cases rx
  obtain ⟨mA, J, _⟩ := ins_get I2.hok hp
  obtain ⟨od, J, _⟩ := J.look
  obtain ⟨m, hF⟩ := I2.fr
  exact PySem.W.sub_K hF I2.ok.mod.kin J hs hf hfn (call_atS G0 hb (hx σ) (A := X.A.in1) hr.in1 rfl I2 (vs := [.ref p, y]) (.cons rfl (.cons ry .nil)) q) (hsl _ _)
end
end My
set_option maxRecDepth 100000
set_option maxHeartbeats 4000000
namespace My
open PySem L2 PySem.Spec PyProof.Rows
/-- the truth of a value, inside a comprehension -/
def tTruK (K : PySem.W.Frag) (ta : TE) : TT := fun σ H Q => ta σ H fun x H' => ∃ k, TruV K x H' k ∧ Q k H'
section
variable {X : Cx} {CX : CXT} {E : XK} {n : Nat} {f C : Addr} {fd : FuncData} {ps : List Str} {sp : Sp}
/-- len(x), x an instance of the class at C with its own __len__ -/
def rLenOwn (C : Addr) (sp : Sp) (E : XK) : List V → Hp → VK → Prop := fun xs H Q => ∃ a dx fs, xs = [V.ref a] ∧ H a = some (.ins C dx fs) ∧ sp [.ref a] H (fun v H' => ∃ k : Nat, v = .int (k : Int) ∧ k ≤ 1000000 ∧ Q (.int (k : Int)) H') E
theorem call_lenOwn (G0 : FnOk X.prog X.w X.K X.mg X.base CX n f fd ps sp) (hb : Binds X.K fd ps []) (hx : Passes CX X E) (hr : Room (n + 1) X.A)
    (hs : PySem.W.findIn X.K (.ref C) "__len__" = some (some (.ref f))) (hf : PySem.W.isFn X.K (.ref f) = true) :
    CallR X (.builtin "len") (rLenOwn C sp E) := by
  intro pins s σ H xs us Q I r h
  obtain ⟨a, dx, fs, rfl, ha, q⟩ := h
  obtain ⟨u, rfl, r1⟩ := vals1 r
  cases r1
  obtain ⟨mA, J, _⟩ := ins_get I.hok ha
  obtain ⟨od, J, _⟩ := J.look
  obtain ⟨m, hF⟩ := I.fr
  refine PySem.W.len_K hF I.ok.mod.kin J hs hf (wpAny_mono (call_at G0 hb hx (A := X.A.in1) hr.in1 rfl I (vs := [.ref a]) (.cons rfl .nil) q) (fun v s' z => ?_) fun _ _ z => z)
  obtain ⟨x, H1, I1, r1, k, rfl, hk, z⟩ := z
  obtain ⟨tk, rfl⟩ := r1
  exact ⟨⟨Int.natCast_nonneg _, by omega⟩, .int (k : Int), H1, by first | exact I1.tok _ | exact I1, ⟨_, rfl⟩, z⟩
/-- isinstance(e, (c1, c2)) of a caught error with fields -/
def rIsET (K : PySem.W.Frag) (a : Addr) (cls : Value) (d : Option Addr) : List V → Hp → VK → Prop := fun xs H Q => ∃ D dd fs, cls = .ref D ∧ d = some dd ∧ H dd = some (.xd fs) ∧ ExcC K D ∧
  ∃ (tp : Addr) (cs : List V) (us : List Value) (b : Bool), xs = [.ref a, .ref tp] ∧ H tp = some (.tup cs) ∧ Paired ClsV cs us ∧ PySem.W.kitAny K (.ref D) us = some b ∧ Q (.bl b) H
theorem call_isExT {a : Addr} {oe : Obj} {cls : Value} {d : Option Addr} {pn : List (Addr × Obj)} (hz : Zc cls d oe) (hf : ∃ vs, oe.data = .fields vs) :
    CallR (X.suite a ((a, oe) :: pn)) (.builtin "isinstance") (rIsET X.K a cls d) := by
  intro pins s σ H xs us Q I r h
  obtain ⟨D, dd, fs, rfl, rfl, hd, C, tp, cs, ws, b, rfl, hT, k, e, q⟩ := h
  obtain ⟨u1, u2, rfl, r1, r2⟩ := vals2 r
  cases (show u2 = Value.ref tp from r2)
  cases (show u1 = Value.ref a from r1)
  obtain ⟨hget, _⟩ := I.pin (a, oe) (List.mem_append.mpr (.inl List.mem_cons_self))
  obtain ⟨vs, hv⟩ := hf
  have hx : ObjOk X.prog X.w H s.heap dd (.xd fs) := I.hok dd _ hd
  obtain ⟨mA, ⟨od, es, ep, ho, _⟩, _⟩ := hx
  have J : PySem.W.InstAt s.heap a oe D (some od) := ⟨hget, hz.1, by unfold PySem.W.notCls; rw [hv] <;> rfl, by rw [hz.2]; exact ho⟩
  obtain ⟨cdD, hcD, _⟩ := PySem.W.any_some C.hd
  obtain ⟨_, its, rv, o, h1, h2, n, h3⟩ := (show ObjOk X.prog X.w H s.heap tp (.tup cs) from I.hok tp _ hT)
  have e3 := ClsV.all k rv
  subst e3
  obtain ⟨oc, od2, dt, sl⟩ := o
  simp only at h2 h3
  subst h2 h3
  exact PySem.W.kia_tup (PySem.W.kitx_exc (od := some od) (by rw [hcD]; rfl) C.hg C.hk C.hs C.ha C.hn C.ht C.hm) I.kIn J h1 e (fun z => nomatch z) fun tk => ⟨.bl b, H, I.tok tk, rfl, q⟩
theorem band (a b : Nat) : Builtin.bitAnd (a : Int) (b : Int) = ((a &&& b : Nat) : Int) := by
  unfold Builtin.bitAnd
  simp
theorem bor (a b : Nat) : Builtin.bitOr (a : Int) (b : Int) = ((a ||| b : Nat) : Int) := by
  rw [bitOr_nn (Int.natCast_nonneg _) (Int.natCast_nonneg _), Int.toNat_natCast, Int.toNat_natCast]
theorem op_andN {X : Cx} : OpR X (binaryOp .BitAnd) (fun x y H Q => ∃ a b : Nat, x = .int (a : Int) ∧ y = .int (b : Int) ∧ Q (.int ((a &&& b : Nat) : Int)) H) := by
  intro pins s σ H x y v u Q I rx ry h
  obtain ⟨a, b, rfl, rfl, q⟩ := h
  rw [← band] at q
  exact op_and pins s σ H _ _ v u Q I rx ry ⟨_, _, rfl, rfl, q⟩
theorem op_orN {X : Cx} : OpR X (binaryOp .BitOr) (fun x y H Q => ∃ a b : Nat, x = .int (a : Int) ∧ y = .int (b : Int) ∧ Q (.int ((a ||| b : Nat) : Int)) H) := by
  intro pins s σ H x y v u Q I rx ry h
  obtain ⟨a, b, rfl, rfl, q⟩ := h
  rw [← bor] at q
  exact op_or pins s σ H _ _ v u Q I rx ry ⟨_, _, rfl, rfl, q⟩
end
end My
set_option maxRecDepth 100000
set_option maxHeartbeats 4000000
namespace My
open PySem L2 PySem.Spec PyProof.Rows
section
variable {X : Cx} {CX : CXT} {E : XK} {n : Nat} {f C : Addr} {fd : FuncData} {ps : List Str} {sp : Sp}
/-- x in o, o's class with its own __contains__ that gives a truth value -/
def rInOwn (C : Addr) (sp : Sp) (E : XK) (neg : Bool) : R2 := fun x y H Q => ∃ a dx fs, y = .ref a ∧ H a = some (.ins C dx fs) ∧ sp [.ref a, x] H (fun v H' => ∃ k, v = .bl k ∧ Q (.bl (if neg = true then !k else k)) H') E
theorem op_inOwn (G0 : FnOk X.prog X.w X.K X.mg X.base CX n f fd ps sp) (hb : Binds X.K fd ps []) (hx : Passes CX X E) (hr : Room n X.A)
    (hs : PySem.W.findIn X.K (.ref C) "__contains__" = some (some (.ref f))) (hf : PySem.W.isFn X.K (.ref f) = true) : OpR X (compareOp .In) (rInOwn C sp E false) := by
  intro pins s σ H x y v u Q I rx ry h
  obtain ⟨a, dx, fs, rfl, ha, q⟩ := h
  cases ry
  obtain ⟨mA, J, _⟩ := ins_get I.hok ha
  obtain ⟨od, J, _⟩ := J.look
  obtain ⟨m, hF⟩ := I.fr
  refine PySem.W.in_K hF I.ok.mod.kin J hs hf ?_
  refine wpAny_mono (call_at G0 hb hx hr rfl I (vs := [.ref a, x]) (.cons rfl (.cons rx .nil)) q) (fun r s' z => ?_) fun _ _ z => z
  obtain ⟨z, H1, I1, r1, k, rfl, q1⟩ := z
  cases r1
  exact wpAny_truthy_bool ⟨.bl k, H1, I1, rfl, q1⟩
theorem op_notInOwn (G0 : FnOk X.prog X.w X.K X.mg X.base CX n f fd ps sp) (hb : Binds X.K fd ps []) (hx : Passes CX X E) (hr : Room n X.A)
    (hs : PySem.W.findIn X.K (.ref C) "__contains__" = some (some (.ref f))) (hf : PySem.W.isFn X.K (.ref f) = true) : OpR X (compareOp .NotIn) (rInOwn C sp E true) := by
  intro pins s σ H x y v u Q I rx ry h
  obtain ⟨a, dx, fs, rfl, ha, q⟩ := h
  cases ry
  obtain ⟨mA, J, _⟩ := ins_get I.hok ha
  obtain ⟨od, J, _⟩ := J.look
  obtain ⟨m, hF⟩ := I.fr
  refine PySem.W.notIn_K hF I.ok.mod.kin J hs hf ?_
  refine wpAny_mono (call_at G0 hb hx hr rfl I (vs := [.ref a, x]) (.cons rfl (.cons rx .nil)) q) (fun r s' z => ?_) fun _ _ z => z
  obtain ⟨z, H1, I1, r1, k, rfl, q1⟩ := z
  cases r1
  exact wpAny_truthy_bool ⟨.bl (!k), H1, I1, rfl, q1⟩
/-- ~o -/
theorem un_inv (G0 : FnOk X.prog X.w X.K X.mg X.base CX n f fd ps sp) (hb : Binds X.K fd ps []) (hx : Passes CX X E) (hr : Room n X.A)
    (hs : PySem.W.findIn X.K (.ref C) "__invert__" = some (some (.ref f))) (hf : PySem.W.isFn X.K (.ref f) = true) : UnR X (unaryOp .Invert) (rOwn1 C sp E) := by
  intro pins s σ H x v Q I rx h
  obtain ⟨a, dx, fs, rfl, ha, q⟩ := h
  cases rx
  obtain ⟨mA, J, _⟩ := ins_get I.hok ha
  obtain ⟨od, J, _⟩ := J.look
  obtain ⟨m, hF⟩ := I.fr
  exact PySem.W.ksp_inv hF I.ok.mod.kin J hs hf (call_at G0 hb hx hr rfl I (vs := [.ref a]) (.cons rfl .nil) q)
/-! ### a thing is forgotten -/
theorem hok_forget {P : Program} {w : World} {H : Hp} {h : Heap} {x : Addr} {φ : Heap → Prop} (hx : H x = none) (ok : HOk P w (upd H x (.ext φ)) h) : HOk P w H h := fun b u e => by
  have hb : b ≠ x := ne_of_none e hx
  refine (ok b u (by rw [upd_ne hb]; exact e)).stay (fun _ _ _ q => q) (fun c q => ?_) fun c xs q => ?_
  · by_cases hc : c = x
    · rw [hc, upd_same] at q; cases q
    · rw [upd_ne hc] at q; exact q
  · by_cases hc : c = x
    · rw [hc, upd_same] at q; cases q
    · rw [upd_ne hc] at q; exact q
theorem inv_forget {pins : List (Addr × Obj)} {σ : L2.St} {H : Hp} {s : Shared} {x : Addr} {φ : Heap → Prop} (hx : H x = none) (I : Inv X pins σ (upd H x (.ext φ)) s) : Inv X pins σ H s := by
  have no : ∀ {b : Addr} {o : HO}, upd H x (.ext φ) b = some o → (∀ ψ, o ≠ .ext ψ) → H b = some o := fun {b o} q hn => by
    by_cases hc : b = x
    · rw [hc, upd_same] at q; cases q; exact absurd rfl (hn φ)
    · rw [upd_ne hc] at q; exact q
  have nn : ∀ {b : Addr}, upd H x (.ext φ) b = none → H b = none := fun {b} q => by
    by_cases hc : b = x
    · rw [hc, upd_same] at q; cases q
    · rw [upd_ne hc] at q; exact q
  refine ⟨I.ok, I.os, I.bare, ⟨I.base.keep, I.base.slot, fun b o e n hx => nn (I.base.free b o e n hx), I.base.there, fun b xs q => no (I.base.tups b xs q) (fun _ => nofun), fun b o u q => no (I.base.frzs b o u q) (fun _ => nofun), fun b ps q => ?_⟩, I.loc, I.cell, nn I.free, fun y c e => nn (I.freeC y c e), fun p hp => ?_, hok_forget hx I.hok, I.len⟩
  · obtain ⟨m, e⟩ := I.base.tbls b ps q
    exact ⟨m, no e (fun _ => nofun)⟩
  · obtain ⟨e, n, ne, nf, d⟩ := I.pin p hp
    exact ⟨e, nn n, ne, nf, d⟩
end
/-! ### a promise that knows the state at the call -/
structure FnAt (P : Program) (w : World) (K : PySem.W.Frag) (mg : Str → Option Value) (base : Heap) (CX : CXT) (k : Nat) (f : Addr) (fd : FuncData) (ps : List Str) (sp : Shared → Sp) : Prop where
  len : ∀ s vs H Q E, sp s vs H Q E → vs.length = ps.length
  run : ∀ (A : Around) (outer : List Env) (s : Shared) (H : Hp) (args : Args) (us : List Value) (vs : List V) (Q : VK) (E : XK), Room k A → Env0 P w K mg base A outer s H → BindsTo s fd args (ps.zip us) → Vals vs us → sp s vs H Q E →
    codeAny (model P w) A (.call (.ref f) args) (CR CX outer P w H s Q E) s
theorem fun_okAt {P : Program} {w : World} {K : PySem.W.Frag} {mg : Str → Option Value} {base : Heap} {CX : CXT} {x qual : Str} {st : Stmt} {f : Addr} {fd : FuncData} {N ps : List Str} {k : Nat} {sp : Shared → Sp} (F : Fun K x qual st f fd) (S : FnScope N ps (defScope st)) (len : ∀ s vs H Q E, sp s vs H Q E → vs.length = ps.length)
    (hbody : ∀ (cdv : Value) (A : Around) (outer : List Env) (s : Shared) (H : Hp) (vs : List V) (Q : VK) (E : XK), Room k (A.deeper (PyProof.Rows.envOfC qual (defScope st) s.heap.objs.size f cdv)) → sp s vs H Q E →
      ∃ t, PSs (cxOf CX P w K mg base N qual (defScope st) f cdv A outer s H E) (defBody st) t ∧ t { nx := fun _ H' => Q .non H', rt := Q } (L2.start N vs) H) : FnAt P w K mg base CX (k + 1) f fd ps sp := by
  obtain ⟨oc, od, kV, doc, pm, an, cdv, ct, osl, rfl, lk, hcd⟩ := F.ex
  refine ⟨len, fun A outer s H args us vs Q E hr e0 hb r hsp => ?_⟩
  have hl := len _ _ _ _ _ hsp
  have KX : K.In s.heap := e0.mod.kin.keeps fun b o e => (e0.bs b o e).1
  have lim : s.heap.NoLimit := e0.mod.nolimit.keeps fun b o e => (e0.bs b o e).1
  have hkind : ∀ y ∈ ps.zip us, (defScope st).names.lookup y.1 = some .local ∨ ((defScope st).names.lookup y.1 = some .cell ∧ ((cellsFrom (s.heap.objs.size + 1) (defScope st).names []).lookup y.1).isSome = true) := fun ⟨n, v⟩ hy => by
    rcases S.par n (List.of_mem_zip hy).1 with q | q
    · exact .inl q
    · exact .inr ⟨q, PySem.W.cellsFrom_some _ _ _ (.inl q)⟩
  refine codeAny_call_function hr.depth (KX _ _ lk) rfl S.co S.gen rfl (PySem.W.codeRec_of KX hcd) (hb _ _ _ _ ?_)
  refine wpAny_newFunctionEnv_cells S.kind hkind fun env he s1 x => ?_
  subst he
  refine ⟨lim.keeps x.toInCall.keep, codeAny_func ?_⟩
  obtain ⟨t, ht, hq⟩ := hbody cdv A outer s H vs Q E (hr.deeper _) hsp
  have I : Inv (cxOf CX P w K mg base N qual (defScope st) f cdv A outer s H E) [] (L2.start N vs) H s1 := inv_start S hr.hd e0 hl r x
  refine wpAny_mono (ht.run [] s1 (L2.start N vs) H _ I hq) (fun fl s' hs => ?_) fun e s' hs => hs
  have fin : ∀ {σ' : L2.St} {H' : Hp} {v : V} {u : Value}, Inv (cxOf CX P w K mg base N qual (defScope st) f cdv A outer s H E) [] σ' H' s' → RelV v u → Q v H' → CE outer P w H s Q u s' :=
    fun {σ' H' v u} J rv q => ⟨v, H', J.os, J.bare, J.base, J.hok, rv, q⟩
  cases fl with
  | ret u =>
    obtain ⟨v, σ', H', J, rv, q⟩ := hs
    exact fin J rv q
  | next =>
    obtain ⟨σ', H', J, q⟩ := hs
    exact fin (v := V.non) (u := Value.none) J rfl q
  | brk =>
    obtain ⟨_, _, _, q⟩ := hs
    exact False.elim q
  | cont =>
    obtain ⟨_, _, _, q⟩ := hs
    exact False.elim q
section
variable {X : Cx}
/-- iter(t) of a tuple; the iterator is younger than the call -/
theorem call_iterTS : CallR X (.builtin "iter") (fun xs H Q => ∃ (l : Addr) (zs : List V), xs = [.ref l] ∧ SqT X.K H l zs ∧ ∀ it, H it = none → X.s_0.heap.objs.size ≤ it → Q (.ref it) (upd H it (TitO l it 0))) := by
  intro pins s σ H xs us Q I r h
  obtain ⟨l, zs, rfl, hq, q⟩ := h
  obtain rfl := Vals.ref1 r
  obtain ⟨its, rv, pl, hz⟩ := I.tuple hq
  refine Calls.call_function_entry (by decide +kernel) (by decide +kernel) PySem.W.kdk_entry_iter (PySem.W.kdk_args_iter _) ?_
  unfold Builtin.«iter»
  refine wpAny_bind (m := someArgs "iter" 1 2 _) (wpAny_of_eq (a := [Value.ref l]) (by first | rfl | kernel_rfl!) ?_)
  show wpAny _ _ (pyIter (.ref l) >>= _) _ _ _
  refine wpAny_bind (wpAny_pyIter_tuple (show s.heap.IsTuple l its.toArray from pl) (wpAny_pure ⟨_, rfl, ?_⟩))
  exact ⟨.ref s.heap.objs.size, _, I.laid (t' := s.toks) (fun b u e => Heap.get?_push_of_some _ e) (Nat.le_refl _) (titO_ok ⟨_, Heap.get?_push_size _ rfl, rfl, rfl⟩), rfl, q _ (I.hok.fresh (Nat.le_refl _)) I.sz⟩
/-- what such an __iter__ promises: an iterator over the tuple at l, at its beginning -/
def spItS (C : Addr) (L : Hp → Addr → List (Str × V) → Addr → Prop) : Shared → Sp := fun s vs H Q _ => ∃ p dx fs l, vs = [.ref p] ∧ H p = some (.ins C dx fs) ∧ L H p fs l ∧ ∀ it, H it = none → s.heap.objs.size ≤ it → Q (.ref it) (upd H it (TitO l it 0))
def iOwn (K : PySem.W.Frag) (C : Addr) (L : Hp → Addr → List (Str × V) → Addr → Prop) (tl : TE) : TI := fun σ H R => tl σ H fun x H1 => ∃ a dx fs l xs, x = .ref a ∧ H1 a = some (.ins C dx fs) ∧ L H1 a fs l ∧ SqT K H1 l xs ∧ R (Itt K l) H1
theorem pi_own {tg e : Expr} {tl : TE} {n : Nat} {f C : Addr} {fd : FuncData} {ps : List Str} {L : Hp → Addr → List (Str × V) → Addr → Prop} (he : PE X e tl) (G0 : FnAt X.prog X.w X.K X.mg X.base CX0 n f fd ps (spItS C L)) (hb : Binds X.K fd ps []) (hr : Room n X.A)
    (hs : PySem.W.findIn X.K (.ref C) "__iter__" = some (some (.ref f))) (hf : PySem.W.isFn X.K (.ref f) = true) : PI X tg e (iOwn X.K C L tl) := by
  refine ⟨fun pins s σ H R I h => ?_⟩
  refine thn (he.run pins s σ H _ I h) fun v s1 ⟨x, H1, I1, r1, q1⟩ => ?_
  obtain ⟨a, dx, fs, l, xs, rfl, ha, hL, hq, q⟩ := q1
  cases r1
  obtain ⟨mA, J, _⟩ := ins_get I1.hok ha
  obtain ⟨od, J, _⟩ := J.look
  obtain ⟨m, hF⟩ := I1.fr
  refine PySem.W.owit_iter hF I1.ok.mod.kin J hs hf ?_
  have hsp : spItS C L s1 [.ref a] H1 (fun v H2 => ∃ it, v = .ref it ∧ H1 it = none ∧ s1.heap.objs.size ≤ it ∧ H2 = upd H1 it (TitO l it 0)) (fun _ _ _ => False) := ⟨a, dx, fs, l, rfl, ha, hL, fun it h1 h2 => ⟨it, rfl, h1, h2, rfl⟩⟩
  have r : Vals [V.ref a] [Value.ref a] := .cons rfl .nil
  have e0 : Env0 X.prog X.w X.K X.mg X.base X.A X.stack s1 H1 := I1.env0
  have hl := G0.len _ _ _ _ _ hsp
  refine wpAny_call (codeAny_mono (G0.run X.A X.stack s1 H1 ⟨[.ref a], []⟩ [.ref a] [.ref a] _ _ hr e0 (by
    have := hb s1 [.ref a] I1.kIn (by rw [List.append_nil]; exact hl)
    simpa using this) r hsp) fun r s' hq' => ?_)
  cases r with
  | error e => exact False.elim hq'
  | ok fl =>
    cases fl with
    | ret u =>
      obtain ⟨v, H2, I2, rv, it, rfl, hn, hsz, rfl⟩ := I1.after hq'
      obtain rfl : u = Value.ref it := rv
      have hit := titO_get I2 upd_same
      unfold PySem.W.OwitIt
      refine wpAny_specialOf (show s'.TypeIs (.ref it) "tuple_iterator" from hit.typeIs) PySem.F.slot_tuple_iterator_next.lookup ?_
      have I3 := inv_forget hn I2
      refine ⟨it, [it], _, _, H1, rfl, I3, turn_tuple l it, hit, fun b hb => ?_, q⟩
      have e : b = it := by simpa using hb
      subst e
      exact I1.fpOk hsz hn
    | next => exact False.elim hq'
    | brk => exact False.elim hq'
    | cont => exact False.elim hq'
end
/-! ### several except clauses with a name -/
def wManyAs (K : PySem.W.Frag) (i : Nat) (Wout : WX) (D : Ends) : List (Value × (Addr → Value → Option Addr → TS)) → WX
  | [] => Wout
  | (c, ts) :: r => fun cls d σ H => ∃ b, PySem.W.exmOne K cls c = some b ∧ (b = true → ∀ a, H a = none → ts a cls d { nx := fun σ' H' => D.nx (σ'.set i none) H', rt := D.rt, bk := fun σ' H' => D.bk (σ'.set i none) H', ct := fun σ' H' => D.ct (σ'.set i none) H' } (σ.set i (some (.ref a))) H) ∧ (b = false → wManyAs K i Wout D r cls d σ H)
inductive HdsAs (X : Cx) (n : Str) : List ExceptHandler → List (Value × (Addr → Value → Option Addr → TS)) → Prop
  | nil : HdsAs X n [] []
  | cons {x : Str} {c : Value} {ts : Addr → Value → Option Addr → TS} {b₀ : Stmt} {suite : List Stmt} {np pos' : Pos} {hds : List ExceptHandler} {l : List (Value × (Addr → Value → Option Addr → TS))} (hc : Names X x c)
      (hsu : ∀ (a : Addr) (oe : Obj) (cls : Value) (d : Option Addr) (pn : List (Addr × Obj)), Zc cls d oe → (∃ vs, oe.data = .fields vs) → PSs (X.suite a ((a, oe) :: pn)) (b₀ :: suite) (ts a cls d)) (r : HdsAs X n hds l) :
      HdsAs X n (.ExceptHandler (some (.Name x np)) (some n) (b₀ :: suite) pos' :: hds) ((c, ts) :: l)
section
variable {X : Cx} {n : Str} {i : Nat} {body : List Stmt} {h₀ : ExceptHandler} {hds : List ExceptHandler} {l : List (Value × (Addr → Value → Option Addr → TS))} {pos : Pos} {tb : WX → TS} {Wout : WX}
theorem ps_try_as_many (hs : X.stack = X.env :: X.outer) (hf : X.env.frame = some X.env.locals) (hN : X.N.Nodup) (hi : X.N[i]? = some n) (hln : X.env.kindOf n = some .local) (tk : Takes X Wout)
    (hb : ∀ (W : WX) (pn : List (Addr × Obj)) (xe : Value → Shared → Prop), Takes (X.tr pn xe) W → PassesOwn (model X.prog X.w) X.A X.env xe → PSs (X.tr pn xe) body (tb W))
    (hh : HdsAs X n (h₀ :: hds) l) : PS X (.Try body (h₀ :: hds) [] [] pos) (fun D σ H => tb (wManyAs X.K i Wout D l) D σ H) := by
  refine ⟨fun pins s σ H D I h => ?_⟩
  have ok := I.ok
  have hloc : Loc X.env.scope n := .inl hln
  have hfr : X.A.frames = some (X.env :: X.outer) := by rw [ok.frames, hs]
  refine wpAny_Try_except ?_
  refine wpAny_mono ((hb (wManyAs X.K i Wout D l) (X.pn ++ pins) (fun e s₁ => wpAny (model X.prog X.w) X.A (noteFrame e X.env) (fun _ s₂ => wpAny (model X.prog X.w) X.A (setFlight e none) (fun _ s₃ =>
    wpAny (model X.prog X.w) X.A (handleBy e X.env (h₀ :: hds)) (SP X pins D) X.xe s₃) X.xe s₂) X.xe s₁) (fun u s' xx => ?_) PassesOwn.looking).run [] s σ H D (I.toTry _) h) (fun f s1 hsp => ?_) (fun e s1 he => he)
  · obtain ⟨a, B, sI, pins', σ', H', cls, d, rfl, J', nb, up, sky, na, os, ag, w⟩ := xx
    have J : Inv X pins σ' H' sI := J'.ofTry ok
    have sky' : Sky B (X.env :: X.outer) a (Zc cls d) X.env.locals s'.heap := by rw [← hs]; exact sky
    show wpAny (model X.prog X.w) X.A (noteFrame (.ref a) X.env) _ _ _
    refine Sky.land Zc.steady hfr hf sky' fun h3 fl3 up3 => ?_
    have J3 : Inv X pins σ' H' { s' with heap := h3 } := J.landed nb fl3.1 (up.trans up3) os ag
    obtain ⟨oe3, vs3, he3, hz3, hd3⟩ := fl3.there
    have notFr : ∀ {h : Heap} {o : Obj} {vs : Array Value}, h.FunFrames B (X.env :: X.outer) → h.get? a = some o → o.data = .fields vs → a ∉ frs (X.env :: X.outer) := fun {h o vs} ff e dd hm => by
      obtain ⟨_, o', e', hnf⟩ := ff.mem hm
      rw [e] at e'; cases e'
      exact hnf _ dd
    have nfr := notFr fl3.2.2.1 he3 hd3
    have nL : a ≠ X.env.locals := fun z => nfr (List.mem_filterMap.mpr ⟨X.env, List.mem_cons_self, by rw [hf, z]⟩)
    have nF : a ∉ X.fs := fun hm => by
      obtain ⟨e, he, q⟩ := List.mem_filterMap.mp hm
      exact nfr (List.mem_filterMap.mpr ⟨e, List.mem_cons_of_mem _ he, q⟩)
    have S3 := J3.suite he3 hd3 na nL nF
    have go : ∀ {hds' : List ExceptHandler} {l' : List (Value × (Addr → Value → Option Addr → TS))}, HdsAs X n hds' l' → wManyAs X.K i Wout D l' cls d σ' H' →
        wpAny (model X.prog X.w) X.A (handleBy (.ref a) X.env hds') (SP X pins D) X.xe { s' with heap := h3 } := by
      intro hds' l' hk
      induction hk with
      | nil =>
        intro w
        refine wpAny_handleBy_nil ?_
        obtain ⟨k1, k2, k3, oe, vs, T, oT, ts', he, hz, hd, h1, hr⟩ := id fl3
        unfold PySem.passOn
        refine wpAny_bind (wpAny_field he hd h1 ?_)
        rw [if_neg (show ¬ ((Value.ref T == Value.none) = true) from by simp)]
        have fin : wpAny (model X.prog X.w) X.A (setFlight (.ref a) X.env.frame) (fun _ s4 => wpAny (model X.prog X.w) X.A (throw (.ref a) : Sem Flow) (SP X pins D) X.xe s4) X.xe { s' with heap := h3 } := by
          rw [hf]
          refine HandSPX.setFlight_upZ fl3 fun h4 hh4 up4 => wpAny_throw (tk _ _ ?_)
          exact ⟨a, B, sI, pins, σ', H', cls, d, rfl, J, nb, (up.trans up3).trans up4, .inr (.inr (by rw [hs]; exact hh4)), na, os, ag, w⟩
        first
          | exact wpAny_bind (wpAny_pure (wpAny_bind fin))
          | exact wpAny_bind fin
      | @cons x c ts b₀ suite np pos' hds2 l2 hc hsu r ih =>
        intro w
        obtain ⟨b, hb1, hyes, hno⟩ := w
        refine wpAny_handleBy_cons (codeAny_handlers_test ?_) (by intro q; cases q)
        have LT : PySem.W.Looks (model X.prog X.w) h3 (typeOf (.ref a)) cls := fun A Q E s k q => wpAny_typeOf_ref (k _ _ he3) (by rw [hz3.1]; exact q)
        have LM := PySem.W.exm_one (M := model X.prog X.w) (J3.kIn) LT hb1
        have test : ∀ {Q : Value → Shared → Prop} {E : Value → Shared → Prop}, Q c { s' with heap := h3 } → wpAny (model X.prog X.w) (X.A.mark (some (.ref a))) (eval (.Name x np) X.env) Q E { s' with heap := h3 } := fun {Q E} q => by
          obtain ⟨hg, hdbg, hm | ⟨hm, hv, hnn⟩⟩ := hc
          · exact ld_glob (X := X.suite a ((a, oe3) :: (X.pn ++ pins))) S3 hg hm q hdbg
          · exact ld_blt (X := X.suite a ((a, oe3) :: (X.pn ++ pins))) S3 hg hm hv q hnn hdbg
        refine test (LM.here ?_)
        cases b with
        | true =>
          refine codeAny_handlers_suite_as ?_
          refine HandSPX.lands_againZ fl3 fun h4 fl4 up4 => ?_
          have J4 : Inv X pins σ' H' { s' with heap := h4 } := J.landed nb fl4.1 ((up.trans up3).trans up4) os ag
          obtain ⟨oe4, vs4, he4, hz4, hd4⟩ := fl4.there
          have S4 := J4.suite he4 hd4 na nL nF
          refine store_ok (X := X.suite a ((a, oe4) :: (X.pn ++ pins))) (v := .ref a) S4 hN hi hloc rfl (fun s5 S5 => ?_) (.inr hln)
          refine wpAny_mono ((hsu a oe4 cls d (X.pn ++ pins) hz4 ⟨_, hd4⟩).run [] s5 _ H' _ S5 (hyes rfl a na)) (fun f s6 hsp => ?_) (fun _ _ z => False.elim z)
          have end_ : ∀ {σ6 : L2.St} {H6 : Hp} {Q : Shared → Prop}, Inv (X.suite a ((a, oe4) :: (X.pn ++ pins))) [] σ6 H6 s6 → (∀ s7, Inv X pins (σ6.set i none) H6 s7 → Q s7) →
              wpAny (model X.prog X.w) X.A (do bindName X.env n .none; unbindBehindTheSuite X.env n pos') (fun _ s7 => Q s7) X.xe s6 := fun {σ6 H6 Q} S6 hq => gone_ok (S6.unsuite ok) hN hi hln hq
          cases f with
          | next =>
            obtain ⟨σ6, H6, S6, q6⟩ := hsp
            exact end_ S6 fun s7 J7 => ⟨_, _, J7, q6⟩
          | brk =>
            obtain ⟨σ6, H6, S6, q6⟩ := hsp
            exact end_ S6 fun s7 J7 => ⟨_, _, J7, q6⟩
          | cont =>
            obtain ⟨σ6, H6, S6, q6⟩ := hsp
            exact end_ S6 fun s7 J7 => ⟨_, _, J7, q6⟩
          | ret u =>
            obtain ⟨v6, σ6, H6, S6, r6, q6⟩ := hsp
            exact end_ S6 fun s7 J7 => ⟨_, _, _, J7, r6, q6⟩
        | false =>
          show wpAny _ X.A (handleBy (.ref a) X.env hds2) _ _ _
          exact ih (hno rfl)
    exact go hh w
  · cases f with
    | next =>
      obtain ⟨σ', H', J', q⟩ := hsp
      exact wpAny_execs_nil ⟨σ', H', J'.ofTry ok, q⟩
    | brk =>
      obtain ⟨σ', H', J', q⟩ := hsp
      exact ⟨σ', H', J'.ofTry ok, q⟩
    | cont =>
      obtain ⟨σ', H', J', q⟩ := hsp
      exact ⟨σ', H', J'.ofTry ok, q⟩
    | ret u =>
      obtain ⟨v, σ', H', J', r, q⟩ := hsp
      exact ⟨v, σ', H', J'.ofTry ok, r, q⟩
end
end My
set_option maxRecDepth 100000
set_option maxHeartbeats 4000000
namespace My
open PySem L2 PySem.Spec PyProof.Rows
/-! ### t[:0:-1], t a tuple -/
theorem fm_congr {α β : Type} {f g : α → Option β} : ∀ {l : List α}, (∀ x ∈ l, f x = g x) → l.filterMap f = l.filterMap g
  | [], _ => rfl
  | a :: l, h => by
    rw [List.filterMap_cons, List.filterMap_cons, h a List.mem_cons_self, fm_congr fun x hx => h x (List.mem_cons_of_mem _ hx)]
theorem back_pick (xs : Array Value) : ((List.range (xs.size - 1)).filterMap fun (m : Nat) => xs[(((xs.size : Nat) : Int) - 1 + (m : Int) * (-1)).toNat]?) = (xs.toList.drop 1).reverse := by
  obtain ⟨l⟩ := xs
  cases l with
  | nil => rfl
  | cons a t =>
    simp only [List.size_toArray, List.getElem?_toArray, List.length_cons, List.drop_succ_cons, List.drop_zero]
    rw [Nat.add_sub_cancel]
    have e : ∀ m ∈ List.range t.length, (a :: t)[((((t.length + 1 : Nat)) : Int) - 1 + (m : Int) * (-1)).toNat]? = t.reverse[m]? := fun m hm => by
      have hm := List.mem_range.mp hm
      have e1 : ((((t.length + 1 : Nat)) : Int) - 1 + (m : Int) * (-1)).toNat = (t.length - 1 - m) + 1 := by omega
      rw [e1, List.getElem?_cons_succ, List.getElem?_reverse hm]
    have e2 : (List.range t.length).filterMap (fun (m : Nat) => (a :: t)[((((t.length + 1 : Nat)) : Int) - 1 + (m : Int) * (-1)).toNat]?) = (List.range t.length).filterMap (fun m => t.reverse[m]?) :=
      fm_congr e
    rw [e2]
    have h := PySem.W.krv_all t.reverse.toArray
    simpa using h
theorem back_adjust (n : Nat) : Builtin.Slice.sliceAdjust none (some 0) (-1) (n : Int) = ((n : Int) - 1, if n = 0 then -1 else 0) := by
  by_cases h : n = 0
  · subst h; rfl
  · rw [if_neg h]
    have e : min (0 : Int) ((n : Int) - 1) = 0 := by omega
    show ((n : Int) - 1, min (0 : Int) ((n : Int) - 1)) = _
    rw [e]
theorem back_places (n : Nat) : Builtin.Slice.slicePlaces ((n : Int) - 1) (if n = 0 then -1 else 0) (-1) = n - 1 := by
  unfold Builtin.Slice.slicePlaces
  rw [if_neg (show ¬ ((-1 : Int) > 0) by decide)]
  by_cases h : n = 0
  · subst h; rfl
  · rw [if_neg h]
    by_cases h1 : n = 1
    · subst h1; rfl
    · rw [if_pos (by omega), show (- -1 : Int) = 1 by decide, Int.ediv_one]
      omega
section
variable {prog : Program} {w : World} {A : Around} {E : Value → Shared → Prop} {s : Shared}
theorem back_applied {sl : Addr} {vl vu vs : Value} {n : Nat} {Q : Int × Int × Nat → Shared → Prop} (hs : s.heap.IsSliceOf sl vl vu vs) (pl : IsPart vl none) (pu : IsPart vu (some 0)) (ps : IsPart vs (some (-1)))
    (h : Q ((n : Int) - 1, -1, n - 1) s) : wpAny (model prog w) A (Builtin.Slice.sliceApplied (.ref sl) (pure (n : Int))) Q E s := by
  obtain ⟨os, hos, hcs, hds⟩ := id hs
  unfold Builtin.Slice.sliceApplied Builtin.Slice.sliceFields
  refine wpAny_bind (wpAny_bind (wpAny_field hos hds (x := vl) rfl (wpAny_bind (wpAny_field hos hds (x := vu) rfl (wpAny_bind (wpAny_field hos hds (x := vs) rfl (wpAny_pure ?_)))))))
  refine wpAny_bind (HT.slicePart_ ps ?_)
  show wpAny _ _ (if ((-1 : Int) == 0) = true then _ else _) _ _ s
  rw [if_neg (by decide)]
  refine wpAny_bind (HT.slicePart_ pl (wpAny_bind (HT.slicePart_ pu (wpAny_bind (wpAny_pure ?_)))))
  show wpAny _ _ (match Builtin.Slice.sliceAdjust none (some 0) (-1) (n : Int) with | (lo, hi) => pure (lo, (-1 : Int), Builtin.Slice.slicePlaces lo hi (-1))) _ _ s
  rw [back_adjust n]
  show wpAny _ _ (pure ((n : Int) - 1, (-1 : Int), Builtin.Slice.slicePlaces ((n : Int) - 1) (if n = 0 then -1 else 0) (-1))) _ _ s
  rw [back_places]
  exact wpAny_pure h
theorem getItem_tuple_back {t sl : Addr} {items : Array Value} {vl vu vs : Value} {Q : Value → Shared → Prop} (ht : IsTup s.heap t items) (hs : s.heap.IsSliceOf sl vl vu vs) (pl : IsPart vl none) (pu : IsPart vu (some 0)) (ps : IsPart vs (some (-1)))
    (h : Q (.ref s.heap.objs.size) { s with heap := s.heap.push { cls := .type "tuple", data := .seq (items.toList.drop 1).reverse.toArray } })
    (hsz : items.size ≤ sizeLine) : wpAny (model prog w) A (getItem (.ref t) (.ref sl)) Q E s := by
  have htake : sizeOk (.seq (items.toList.drop 1).reverse.toArray) := by
    show (items.toList.drop 1).reverse.toArray.size ≤ sizeLine
    rw [List.size_toArray, List.length_reverse, List.length_drop, Array.length_toList]
    omega
  obtain ⟨os, hos, hcs, hds⟩ := id hs
  have hTs : s.TypeIs (.ref sl) "slice" := ⟨os, hos, hcs⟩
  unfold getItem
  try with_reducible refine wpAny_holding ?_
  first | refine wpAny_bind (wpAny_pure ?_) | skip
  refine wpAny_bind (wpAny_sequenceKey ht.typeIs (by decide) ?_)
  refine wpAny_bind (wpAny_callSpecial?_slot (name := Str.ofString "__getitem__") ht.typeIs PyProof.Rows.slot_tuple_getitem
    (wpAny_call_entry PyProof.Rows.slot_tuple_getitem ht.typeIs entry_tuple_getitem ?_ (args_tuple_getitem _ _)))
  show wpAny _ _ (Builtin.Tuple.tupleItemsOf (.ref t) >>= _) _ _ s
  refine wpAny_bind (tupleItemsOf_ ht ?_)
  refine wpAny_bind (wpAny_typeOf hTs ?_)
  rw [if_pos (by decide)]
  refine wpAny_bind (back_applied hs pl pu ps ?_)
  have hno : ¬ (((((items.size : Nat) : Int) - 1) == 0 && (-1 : Int) == 1 && (items.size - 1) == items.size) = true) := by
    intro q
    rw [Bool.and_eq_true, Bool.and_eq_true] at q
    exact absurd q.1.2 (by decide)
  show wpAny _ _ (if ((((items.size : Nat) : Int) - 1) == 0 && (-1 : Int) == 1 && (items.size - 1) == items.size) = true then _ else _) _ _ s
  rw [if_neg hno, back_pick]
  first
    | exact wpAny_bind (m := Builtin.Tuple.tupleExact _) (wpAny_newObj_type (wpAny_pure ⟨_, rfl, wpAny_pure h⟩) htake)
    | exact wpAny_bind (m := Builtin.Tuple.tupleExact _) (wpAny_newObj_type (wpAny_bind (wpAny_pure (wpAny_pure ⟨_, rfl, wpAny_pure h⟩))) htake)
    | exact wpAny_bind (wpAny_bind (m := Builtin.Tuple.tupleExact _) (wpAny_newObj_type (wpAny_pure (wpAny_pure ⟨_, rfl, wpAny_pure h⟩)) htake))
    | exact wpAny_bind (wpAny_bind (m := Builtin.Tuple.tupleExact _) (wpAny_newObj_type (wpAny_pure ⟨_, rfl, wpAny_pure h⟩) htake))
end
section
variable {X : Cx}
def tBackT (K : PySem.W.Frag) (te : TE) : TE := fun σ H Q => te σ H fun x H1 => ∃ a xs, x = .ref a ∧ SqT K H1 a xs ∧ ∀ p, H1 p = none → Q (.ref p) (upd H1 p (.tup (xs.drop 1).reverse))
theorem pe_backT {e : Expr} {te : TE} {k k0 : Nat} {p0 p1 p2 p3 pos : Pos} (he : PE X e te) : PE X (.Subscript e (.Slice none (some (.Constant (.int 0) k0 p0)) (some (.UnaryOp .USub (.Constant (.int 1) k p1) p2)) p3) pos) (tBackT X.K te) := by
  refine ⟨fun pins s σ H Q I h => ?_⟩
  refine Subscript_ (thn (he.run pins s σ H _ I h) fun v s1 ⟨x, H1, I1, r1, q1⟩ => ?_)
  obtain ⟨a, xs, ex, hx, q⟩ := q1
  subst ex
  cases r1
  have hst : PO X (some (.UnaryOp .USub (.Constant (.int 1) k p1) p2)) (tPart (tUn (rU fun i => .int (-i)) (tC (.int 1)))) := po_some (pe_un un_neg pe_int)
  have hup : PO X (some (.Constant (.int 0) k0 p0)) (tPart (tC (.int 0))) := po_some pe_int
  refine wpAny_Slice (thn (po_none.run pins s1 σ H1 (fun o H2 => o = none ∧ H2 = H1) I1 ⟨rfl, rfl⟩) fun vl s2 ⟨l, H2, I2, pl, el, e2⟩ => ?_)
  subst el e2
  refine thn (hup.run pins s2 σ H2 (fun o H3 => o = some 0 ∧ H3 = H2) I2 ⟨0, rfl, rfl, rfl⟩) fun vu s3 ⟨u, H3, I3, pu, eu, e3⟩ => ?_
  subst eu e3
  refine thn (hst.run pins s3 σ H3 (fun o H4 => o = some (-1) ∧ H4 = H3) I3 ⟨1, rfl, -1, rfl, rfl, rfl⟩) fun vs s4 ⟨o, H4, I4, ps, eo, e4⟩ => ?_
  subst eo e4
  have I5 : Inv X pins σ H4 { s4 with heap := s4.heap.push { cls := .type "slice", data := .fields #[vl, vu, vs] } } := I4.kept (t' := s4.toks) fun b ob q => Heap.get?_push_of_some _ q
  obtain ⟨its, r, ht, hz⟩ := I5.tuple hx
  have hlen := r.length
  show wpAny (model X.prog X.w) X.A (subscriptTail e (.Slice none (some (.Constant (.int 0) k0 p0)) (some (.UnaryOp .USub (.Constant (.int 1) k p1) p2)) p3) (.ref a) (.ref s4.heap.objs.size)) (EP X pins σ Q) X.xe { s4 with heap := s4.heap.push { cls := .type "slice", data := .fields #[vl, vu, vs] } }
  refine tail_any (ops := [.ref a, .ref s4.heap.objs.size]) ht.typeIs (PyProof.Rows.slot_tuple_getitem.lookup) ?_ (by with_unfolding_all rfl)
  refine getItem_tuple_back ht (Heap.IsSliceOf.new _ vl vu vs) pl pu ps ?_ (by rw [List.size_toArray]; omega)
  refine ⟨.ref _, _, I5.laid (t' := s4.toks) (o := .tup (xs.drop 1).reverse) (fun b ob q => Heap.get?_push_of_some _ q) (Nat.le_refl _) ?_, rfl, q _ (I5.hok.fresh (Nat.le_refl _))⟩
  exact ⟨by rw [List.length_reverse, List.length_drop]; omega, _, (r.drop 1).reverse, IsTup.new _ _⟩
end
end My
set_option maxRecDepth 100000
set_option maxHeartbeats 4000000
namespace My
open PySem L2 PySem.Spec PyProof.Rows
/-! ### tuples that are known to have no dict: their methods can be called -/
def DT (H : Hp) (a : Addr) (xs : List V) : Prop := ∃ o : Obj, o.dict = none ∧ H a = some (.frz o (.tup xs))
theorem DT.sq {K : PySem.W.Frag} {H : Hp} {a : Addr} {xs : List V} (h : DT H a xs) : SqT K H a xs := let ⟨o, _, e⟩ := h; .inl (.inr ⟨o, e⟩)
theorem DT.same {H H' : Hp} {a : Addr} {xs : List V} (h : DT H a xs) (s : Same H H') : DT H' a xs := let ⟨o, d, e⟩ := h; ⟨o, d, s _ _ e⟩
theorem DT.upd {H : Hp} {a b : Addr} {xs : List V} {u o : HO} (h : DT H a xs) (hb : H b = some u) (hu : ∀ o v, u ≠ .frz o v) : DT (L2.upd H b o) a xs := let ⟨w, d, e⟩ := h; ⟨w, d, by rw [upd_ne (ne_of e hb (fun z => hu _ _ z.symm))]; exact e⟩
section
variable {X : Cx}
/-- tuple(xs), a new one -/
def rTupD (K : PySem.W.Frag) : List V → Hp → VK → Prop := fun xs H Q => ∃ p ys, xs = [.ref p] ∧ ((SqL K H p ys ∧ ∀ (l : Addr) (o : Obj), H l = none → o.dict = none → Q (.ref l) (upd H l (.frz o (.tup ys)))) ∨ (SqT K H p ys ∧ Q (.ref p) H))
theorem call_tuple_ofD : CallR X (.type "tuple") (rTupD X.K) := by
  intro pins s σ H xs us Q I r h
  obtain ⟨p, ys, rfl, h⟩ := h
  obtain ⟨u, rfl, rx⟩ := vals1 r
  cases rx
  rcases h with ⟨hq, q⟩ | ⟨hq, q⟩
  · obtain ⟨its, r', pl, hz⟩ := I.list hq
    have hlen := r'.length
    refine call_tuple_list pl.isList (fun h' kp => ?_) (by simp only [List.size_toArray] <;> omega)
    have I1 : Inv X pins σ H { s with heap := h' } := I.kept (t' := s.toks) kp
    have I2 : Inv X pins σ (upd H h'.objs.size (.frz { cls := .type "tuple", data := .seq its.toArray } (.tup ys))) { s with heap := h'.push { cls := .type "tuple", data := .seq its.toArray } } :=
      I1.laid (t' := s.toks) (fun b o e => Heap.get?_push_of_some _ e) (Nat.le_refl _) (show ObjOk X.prog X.w _ _ _ (.frz _ (.tup ys)) from ⟨Heap.get?_push_size _ rfl, hz, its, r', IsTup.new _ _⟩)
    exact ⟨.ref h'.objs.size, _, I2, rfl, q _ _ (I1.hok.fresh (Nat.le_refl _)) rfl⟩
  · obtain ⟨its, r', pl, hz⟩ := I.tuple hq
    exact call_tuple_same pl ⟨.ref p, H, I, rfl, q⟩
def tTupD (t : TA) : TE := fun σ H Q => t σ H fun xs H1 => xs.length ≤ sizeLine ∧ ∀ (p : Addr) (o : Obj), H1 p = none → o.dict = none → Q (.ref p) (upd H1 p (.frz o (.tup xs)))
theorem pe_tupD {es : List Expr} {t : TA} {x1} {pos : Pos} (h : PA X es t) : PE X (.Tuple es x1 pos) (tTupD t) := by
  refine ⟨fun pins s σ H Q I hq => ?_⟩
  refine wpAny_Tuple_spliced (thn (h.run pos pins s σ H _ I hq) fun us s1 ⟨xs, H1, I1, r, z, q⟩ => ⟨by rw [← r.length]; exact z, ?_⟩)
  have hf : H1 s1.heap.objs.size = none := I1.hok.fresh (Nat.le_refl _)
  refine ⟨.ref s1.heap.objs.size, upd H1 s1.heap.objs.size (.frz { cls := .type "tuple", data := .seq us.toArray } (.tup xs)), I1.laid (t' := s1.toks) (fun b u e => Heap.get?_push_of_some _ e) (Nat.le_refl _) ?_, rfl, q _ _ hf rfl⟩
  exact ⟨Heap.get?_push_size _ rfl, z, us, r, ⟨_, Heap.get?_push_size _ rfl, rfl, _, rfl⟩⟩
/-- t.m(e, ..) -/
def tBMT (r : V → List V → Hp → VK → Prop) (to : TE) (t : TA) : TE := fun σ H Q => to σ H fun x H1 => (∃ p xs, x = .ref p ∧ DT H1 p xs) ∧ t σ H1 fun xs H2 => r x xs H2 Q
theorem pe_bmT {o e : Expr} {es : List Expr} {to : TE} {t : TA} {name : Str} {apos cpos : Pos} {id : String} {r : V → List V → Hp → VK → Prop} (pa : PlainAttrs "tuple") (slot : Slot "tuple" name id) (hty : typeOf (.builtin id) = pure (.type "method_descriptor")) (hm : MtR X id r) (ho : PE X o to) (ha : PA X (e :: es) t)
    (hbase : attributeBase o name X.env (eval o X.env) = eval o X.env := by rfl)
    (hfew : ((backTo cpos (starEach (e :: es) X.env)).all (fun x => !x.1) && (backToKw cpos (keywordEach [] X.env)).all (fun x => x.1.isSome)
      && decide ((e :: es).length + ([] : List Keyword).length + (if ([] : List Keyword).isEmpty then 0 else 1) < 30)) = true := by rfl)
    (hline : (apos.endLine == cpos.line) = true := by rfl) (hs : starEach (e :: es) X.env = (false, eval e X.env) :: starEach es X.env := by rfl) (hplain : (backTo cpos (starEach es X.env)).any (·.1) = false := by rfl) :
    PE X (.Call (.Attribute o name apos) (e :: es) [] cpos) (tBMT r to t) := by
  refine ⟨fun pins s σ H Q I h => ?_⟩
  refine wpAny_Call_method_late hbase hfew hline rfl (thn (ho.run pins s σ H _ I h) fun v s1 ⟨x, H1, I1, r1, ty, q1⟩ => ?_)
  obtain ⟨p, xs, rfl, ob, hd, hfz⟩ := ty
  obtain rfl : v = Value.ref p := r1
  obtain ⟨eo, _, its, _, ob', e', hc, _⟩ := (show ObjOk X.prog X.w H1 s1.heap p (.frz ob (.tup xs)) from I1.hok p _ hfz)
  rw [eo] at e'
  cases e'
  have h1 : s1.TypeIs (.ref p) "tuple" := ⟨ob, eo, hc⟩
  have h2 : ∀ a, Value.ref p = .ref a → ∃ ob, s1.heap.get? a = some ob ∧ ob.dict = none := fun a e => by cases e; exact ⟨ob, eo, hd⟩
  refine ⟨"tuple", id, pa, slot, hty, h1, h2, ?_⟩
  have hA := ha.run cpos pins s1 σ H1 _ I1 q1
  rw [hs] at hA ⊢
  refine Calls.callWith_builtin (by show (false || (backTo cpos (starEach es X.env)).any (·.1)) = false; rw [hplain] <;> rfl) (Calls.evalArgs_plain ?_)
  exact thn hA fun us s2 ⟨vs, H2, I2, r2, q2⟩ => hm pins s2 σ H2 (.ref p) vs (.ref p) us Q I2 rfl r2 q2
end
end My
set_option maxRecDepth 100000
set_option maxHeartbeats 4000000
namespace My
open PySem PySem.Spec PyProof.Rows L2
theorem rd_ne {H : Hp} {a b : Addr} {u v : HO} (h : L2.Rd H a u) (hb : H b = some v) (h1 : u ≠ v) (h2 : ∀ o, HO.frz o u ≠ v) : a ≠ b := by
  rcases h with h | ⟨o, h⟩
  · exact ne_of h hb h1
  · exact ne_of h hb (h2 o)
theorem rd_upd {H : Hp} {a b : Addr} {u o : HO} (h : L2.Rd H a u) (hne : a ≠ b) : L2.Rd (upd H b o) a u := by
  rcases h with h | ⟨w, h⟩
  · exact .inl (by rw [upd_ne hne]; exact h)
  · exact .inr ⟨w, by rw [upd_ne hne]; exact h⟩
theorem DT.rd {H : Hp} {a : Addr} {xs : List V} (h : DT H a xs) : L2.Rd H a (.tup xs) := let ⟨o, _, e⟩ := h; .inr ⟨o, e⟩
section
variable {X : Cx} {pins : List (Addr × Obj)} {σ : L2.St} {H : Hp} {s : Shared} {l it S : Addr} {i : Nat}
/-- list.extend over it -/
theorem tit_loopR {A1 : Around} {ys : List V} {Rs : Result → Shared → Prop} (hh : A1.handled = none) :
    ∀ (k i : Nat) (H : Hp) (s : Shared), ys.length - i = k → i ≤ ys.length → Inv X pins σ H s → H it = some (TitO l it i) → L2.Rd H l (.tup ys) → H S = some (.lst (ys.take i)) → ys.length < sizeLine →
      (∀ H2 s2, Inv X pins σ H2 s2 → (∀ b, b ≠ it → b ≠ S → H2 b = H b) → H2 S = some (.lst ys) → Rs (.ok (.ret .none)) s2) → codeAny (model X.prog X.w) A1 (.builtin "list.extend.loop" ⟨[.ref S, .ref it, .none], []⟩) Rs s := by
  intro k
  induction k with
  | zero =>
    intro i H s hk hi I h1 h2 h3 hz hR
    have hne : S ≠ it := ne_of h3 h1 (fun z => nomatch z)
    obtain ⟨its, rv, pl, _⟩ := I.tuple (.inl h2)
    refine codeAny_builtin PySem.F.entry_extend_loop ?_
    rw [Around.under_plainId PySem.F.plain_extend_loop _]
    show wpAny _ A1.in1 (pyNext (.ref it) >>= _) _ _ s
    have hno : (its.toArray)[i]? = none := by
      have := rv.length
      rw [List.getElem?_toArray, List.getElem?_eq_none_iff]
      omega
    refine wpAny_bind (tup_end hh (titO_get I h1) (show s.heap.IsTuple l its.toArray from pl) hno fun h' k' e' => wpAny_pure ?_)
    have J := I.write (t' := s.toks) (x := it) (e := it) (o := AnyO it) (by rw [h1]; exact True.intro) (.inl rfl) k' e' (anyO_ok e')
    refine hR _ _ J (fun b hb _ => upd_ne hb) ?_
    rw [upd_ne hne, h3, List.take_of_length_le (by omega)]
  | succ k ih =>
    intro i H s hk hi I h1 h2 h3 hz hR
    have hne : S ≠ it := ne_of h3 h1 (fun z => nomatch z)
    have hln : l ≠ it := rd_ne h2 h1 (fun z => nomatch z) (fun _ z => nomatch z)
    have hlS : l ≠ S := rd_ne h2 h3 (fun z => nomatch z) (fun _ z => nomatch z)
    obtain ⟨its, rv, pl, _⟩ := I.tuple (.inl h2)
    have hlen := rv.length
    have hlt : i < ys.length := by omega
    obtain ⟨u, hu, ru⟩ := rv.get (i := i) (x := ys[i]) (by simp [hlt])
    refine codeAny_builtin PySem.F.entry_extend_loop ?_
    rw [Around.under_plainId PySem.F.plain_extend_loop _]
    show wpAny _ A1.in1 (pyNext (.ref it) >>= _) _ _ s
    refine wpAny_bind (wpAny_pyNext_tuple_item (titO_get I h1) (show s.heap.IsTuple l its.toArray from pl) (x := u) (by rw [List.getElem?_toArray]; exact hu) fun h' hit hs => ?_)
    have J := I.write (t' := s.toks) (x := it) (e := it) (o := TitO l it (i + 1)) (by rw [h1]; exact True.intro) (.inl rfl) (fun b o hb e => hs.extBut b o hb e) ⟨_, hit.choose_spec.1⟩ (titO_ok hit)
    have h3' : upd H it (TitO l it (i + 1)) S = some (.lst (ys.take i)) := by rw [upd_ne hne]; exact h3
    show wpAny _ A1.in1 (updateSeq S (·.push u) >>= _) _ _ _
    obtain ⟨z, its3, n3, r3, hl3, e3⟩ := J.lstM h3'
    have hl4 : its3.length = i := by rw [← hl3, List.length_take]; omega
    refine wpAny_bind (wpAny_updateSeq e3 rfl (wpAny_pure ⟨plainId_quiet PySem.F.plain_extend_loop _, ?_⟩) (by rw [List.size_toArray]; omega) (by show (its3.toArray.push u).size ≤ sizeLine + 1; rw [Array.size_push, List.size_toArray]; omega))
    have et : ys.take (i + 1) = ys.take i ++ [ys[i]] := by rw [List.take_succ]; simp [hlt]
    have J2 := J.lset (f := (·.push u)) (its' := its3 ++ [u]) (t' := s.toks) (ys := ys.take (i + 1)) h3' e3 (by simp) (by rw [et]; exact r3.append (.cons ru .nil)) (by rw [List.length_take]; omega)
    refine ih (i + 1) _ _ (by omega) hlt J2 ?_ ?_ upd_same hz fun H2 s2 I2 k2 e2 => hR H2 s2 I2 (fun b hb hc => ?_) e2
    · rw [upd_ne (Ne.symm hne), upd_same]
    · exact rd_upd (rd_upd h2 hln) hlS
    · rw [k2 b hb hc, upd_ne hc, upd_ne hb]
end
/-- list(o): its __iter__ gives a tuple's iterator, its __len__ a number -/
def rLstItR (C : Addr) (spI spL : Sp) (EI EL : XK) : List V → Hp → VK → Prop := fun xs H Q => ∃ a dx fs, xs = [.ref a] ∧ H a = some (.ins C dx fs) ∧ ∀ q, H q = none → q ≠ a →
  spI [.ref a] (upd H q (.lst [])) (fun v H1 => ∃ it l ys, v = .ref it ∧ H1 it = some (TitO l it 0) ∧ L2.Rd H1 l (.tup ys) ∧ H1 q = some (.lst []) ∧ H1 a = some (.ins C dx fs) ∧ ys.length < sizeLine ∧
    spL [.ref a] H1 (fun n H2 => H2 = H1 ∧ ∃ k : Int, n = .int k ∧ 0 ≤ k ∧ k < 1000) EL ∧ ∀ H2, (∀ b, b ≠ it → b ≠ q → H2 b = H1 b) → H2 q = some (.lst ys) → Q (.ref q) H2) EI
section
variable {X : Cx} {CI : CXT} {n : Nat} {C fi fl : Addr} {fdI fdL : FuncData} {psI psL : List Str} {spI spL : Sp} {EI EL : XK}
theorem call_listItR (hc : ItL X.K C fi fl) (FI : FnOk X.prog X.w X.K X.mg X.base CI n fi fdI psI spI) (bI : Binds X.K fdI psI []) (xI : Passes CI X EI)
    (FL : FnOk X.prog X.w X.K X.mg X.base CX0 n fl fdL psL spL) (bL : Binds X.K fdL psL []) (hr : Room (n + 4) X.A) : CallR X (.type "list") (rLstItR C spI spL EI EL) := by
  intro pins s σ H xs us Q I rv h
  obtain ⟨a, dx, fs, rfl, ha, hq⟩ := h
  obtain ⟨u, rfl, ru⟩ := rv.one
  cases ru
  have sb : Sub X (n + 2) X.A.in1.in1 := (Sub.in1 (Sub.in1 (⟨hr, rfl⟩ : Sub X (n + 4) X.A)))
  refine callType_codes (Q₁ := fun obj s₁ => obj = .ref s.heap.objs.size ∧ s₁ = { s with heap := s.heap.push { cls := .type "list", data := .seq #[] } }) PySem.F.called_list (PySem.F.typeCall_list_1 _) PySem.F.entry_list_init (code_list_new _ ⟨rfl, rfl⟩) fun obj s₁ h₁ => ?_
  obtain ⟨rfl, rfl⟩ := h₁
  have hS : (s.heap.push { cls := .type "list", data := .seq #[] }).get? s.heap.objs.size = some { cls := .type "list", data := .seq #[] } := Heap.get?_push_size _ rfl
  refine ⟨⟨_, hS, rfl⟩, PySem.F.args_list_init_2 _ _, ?_⟩
  have fr : H s.heap.objs.size = none := I.hok.fresh (Nat.le_refl _)
  have sp0 := hq _ fr (fun z => by rw [z, ha] at fr; cases fr)
  have I1 : Inv X pins σ (upd H s.heap.objs.size (.lst [])) { s with heap := s.heap.push { cls := .type "list", data := .seq #[] } } := I.lnew (its := []) (t' := s.toks) .nil (Nat.zero_le _)
  show wpAny _ _ (do let old ← Builtin.List.listItems (.ref s.heap.objs.size); Builtin.List.listUpdate (.ref s.heap.objs.size) (fun _ => #[]); letGo old.toList.reverse; Builtin.List.listExtendWith (.ref s.heap.objs.size) (.ref a) .none) _ _ _
  refine wpAny_bind ?_
  unfold Builtin.List.listItems
  refine wpAny_bind (wpAny_seqItems hS rfl (wpAny_pure ?_))
  show wpAny _ _ (updateSeq s.heap.objs.size (fun _ => #[]) >>= fun _ => letGo (#[] : Array Value).toList.reverse >>= fun _ => Builtin.List.listExtendWith (.ref s.heap.objs.size) (.ref a) .none) _ _ _
  refine wpAny_bind (wpAny_updateSeq hS rfl ?_)
  have I2 := I1.lset (f := fun _ => #[]) (its := []) (its' := []) (ys := []) (t' := s.toks) upd_same hS rfl .nil (Nat.zero_le _)
  rw [upd_upd] at I2
  refine wpAny_bind (wpAny_letGo ?_)
  have ha2 : upd H s.heap.objs.size (.lst []) a = some (.ins C dx fs) := by rw [upd_ne (ne_of_none ha fr)]; exact ha
  have hne : s.heap.objs.size ≠ a := fun z => by rw [z, ha] at fr; cases fr
  generalize hq0 : s.heap.objs.size = q at *
  generalize hH0 : upd H q (.lst []) = H0 at *
  obtain ⟨mA, J, _⟩ := ins_get I2.hok ha2
  obtain ⟨od, J, _⟩ := J.look
  obtain ⟨m0, hF⟩ := I2.fr
  unfold Builtin.List.listExtendWith
  refine wpAny_bind (J.type.here ?_)
  have h1 : Builtin.List.listSameRef (.ref q) (.ref a) = false := by simp [Builtin.List.listSameRef, hne]
  simp only [h1, (rfl : (Value.ref C == Value.type "list") = false), (rfl : (Value.ref C == Value.type "tuple") = false), Bool.or_false, Bool.false_eq_true, if_false]
  refine wpAny_bind (PySem.W.owit_iter hF I2.ok.mod.kin J hc.it hc.itF ?_)
  refine wpAny_mono (call_at FI bI xI (A := X.A.in1.in1) (sb.mono (by omega)).room sb.fr I2 (vs := [.ref a]) (.cons rfl .nil) sp0) (fun v s3 z => ?_) fun _ _ z => z
  obtain ⟨x, H1, I3, r3, it, l, ys, ex, e1, e2, e3, e4, hz, q1, q2⟩ := z
  subst ex
  obtain rfl : v = Value.ref it := r3
  have hit := titO_get I3 e1
  unfold PySem.W.OwitIt
  refine wpAny_specialOf (show s3.TypeIs (.ref it) "tuple_iterator" from hit.typeIs) PySem.F.slot_tuple_iterator_next.lookup ?_
  show wpAny _ _ _ _ _ s3
  refine wpAny_bind (wpAny_holding ?_)
  obtain ⟨mB, J3, _⟩ := ins_get I3.hok e4
  obtain ⟨od3, J3, _⟩ := J3.look
  obtain ⟨m3, hF3⟩ := I3.fr
  unfold Builtin.List.listLengthHint
  refine wpAny_bind (wpAny_bind (J3.type.here ((PySem.W.looks_findIn I3.kIn hc.ln).here ?_)))
  refine PySem.W.KFB.if_not rfl ?_
  refine PySem.W.KFB.if_so rfl ?_
  refine wpAny_bind (wpAny_rule (wpAny_bind (wpAny_attempt ?_)))
  refine PySem.W.len_K hF3 I3.ok.mod.kin J3 hc.ln hc.lnF (wpAny_mono (call_at0 FL bL (A := X.A.in1.in1.in1) (Sub.in1 (sb.mono (show n + 1 ≤ n + 2 by omega))).room sb.fr I3 (vs := [.ref a]) (.cons rfl .nil) q1) (fun v s4 z => ?_) fun _ _ z => z)
  obtain ⟨x, H2, I4, r4, eH, k0, ek, hk0, hk1⟩ := z
  subst ek
  subst eH
  obtain ⟨tk4, rfl⟩ := r4
  refine ⟨⟨hk0, by omega⟩, ?_⟩
  refine wpAny_bind (wpAny_of_eq (a := some k0) rfl ?_)
  show wpAny _ _ (if Builtin.List.listTooLong k0.toNat = true then _ else _) _ _ _
  refine PySem.W.KFB.if_not (notLongL (by rw [sizeLine_eq]; omega)) (wpAny_pure ?_)
  have I5 := I4.tok (s4.toks + 1)
  have hne1 : q ≠ it := ne_of e3 e1 (fun z => nomatch z)
  have go : ∀ s5, Inv X pins σ H2 s5 → codeAny (model X.prog X.w) X.A.in1 (.builtin "list.extend.loop" ⟨[.ref q, .ref it, .none], []⟩) (wants (fun r s₂ => r = .none ∧ EP X pins σ Q (.ref q) s₂) X.xe) s5 := fun s5 I6 =>
    tit_loopR (A1 := X.A.in1) (Rs := wants (fun r s₂ => r = .none ∧ EP X pins σ Q (.ref q) s₂) X.xe) (show X.A.in1.handled = none from hr.hd) ys.length 0 H2 s5 (by omega) (Nat.zero_le _) I6 e1 e2 (by rw [List.take_zero]; exact e3) hz fun H7 s7 I7 k7 e7 => ⟨rfl, .ref q, H7, I7, rfl, q2 H7 k7 e7⟩
  refine wpAny_ite_split (fun _ => ?_) (fun _ => wpAny_pure ⟨plainId_quiet PySem.F.plain_extend_loop _, go _ I5⟩)
  refine wpAny_bind (wpAny_rule (wpAny_bind ?_))
  show wpAny _ _ (updateSeq q (·.push .none) >>= fun _ => updateSeq q (·.pop)) _ _ _
  obtain ⟨z, its, n5, r5, hl5, e5⟩ := I5.lstM e3
  cases r5
  refine wpAny_bind (wpAny_updateSeq e5 rfl ?_)
  have I6 := I5.lset (f := (·.push Value.none)) (its' := [Value.none]) (ys := [.non]) (t' := s4.toks + 1) e3 e5 (by simp) (.cons rfl .nil) (by rw [List.length_singleton, sizeLine_eq]; decide)
  obtain ⟨z6, its6, n6, r6, hl6, e6⟩ := I6.lstM upd_same
  obtain ⟨u6, rfl, ru6⟩ := r6.one
  refine wpAny_updateSeq e6 rfl (wpAny_pure ⟨plainId_quiet PySem.F.plain_extend_loop _, go _ ?_⟩) (by show 1 ≤ sizeLine; rw [sizeLine_eq]; decide) (by show 0 ≤ sizeLine + 1; exact Nat.zero_le _)
  have I7 := I6.lset (f := (·.pop)) (its := [u6]) (its' := []) (ys := []) (t' := s4.toks + 1) upd_same e6 (by rfl) .nil (Nat.zero_le _)
  rw [upd_upd] at I7
  have hH : upd H2 q (.lst []) = H2 := by
    funext b
    by_cases hb : b = q
    · rw [hb, upd_same, e3]
    · rw [upd_ne hb]
  rw [hH] at I7
  exact I7
end
end My
set_option maxRecDepth 100000
set_option maxHeartbeats 4000000
namespace My
open PySem L2 PySem.Spec PyProof.Rows
section
variable {X : Cx} {CX : CXT} {k : Nat} {f C : Addr} {fd : FuncData} {ps : List Str} {sp : Sp} {m : Str} {o e : Expr} {es : List Expr} {ta : TE} {t : TA} {apos pos : Pos}
/-- o.m(e, ..) that may raise, what is wished of the exception may speak of the slots -/
def tMethE (C : Addr) (m : Str) (sp : Sp) (E : L2.St → XK) (ta : TE) (t : TA) : TE := fun σ H Q => ta σ H fun x H1 => ∃ a dx fs, x = .ref a ∧ H1 a = some (.ins C dx fs) ∧ fs.lookup m = none ∧ t σ H1 fun vs H2 => sp (x :: vs) H2 Q (E σ)
theorem pe_methE {E : L2.St → XK} {pl : Sem Bool} (he : PE X o ta) (c : Cls X.K C) (hm : Meth X.K C m f) (F : FnOk X.prog X.w X.K X.mg X.base CX k f fd ps sp) (hr : Room k X.A) (hb : Binds X.K fd ps []) (hx : ∀ σ, PassesAt CX X σ (E σ)) (ha : PA X (e :: es) t)
    (hst : starEach (e :: es) X.env = (false, eval e X.env) :: starEach es X.env := by rfl) (hpl : (backTo pos (starEach es X.env)).any (·.1) = false := by rfl)
    (ht : eval (.Call (.Attribute o m apos) (e :: es) [] pos) X.env = (do
      let ov ← eval o X.env
      standAt apos.atName
      let (f, first) ← holding [ov] (getMethod ov m pl)
      callWith pos f first (backTo pos (starEach (e :: es) X.env)) (backToKw pos (keywordEach [] X.env))) := by rfl) :
    PE X (.Call (.Attribute o m apos) (e :: es) [] pos) (tMethE C m sp E ta t) := by
  refine ⟨fun pins s σ H Q I h => ?_⟩
  refine PySem.W.methodCall_KW (pl := pl) (thn (he.run pins s σ H _ I h) fun u s1 ⟨x, H1, I1, rx, a, dx, fs, ex, ea, l, q⟩ => ?_) ht
  subst ex
  obtain rfl : u = Value.ref a := rx
  refine getmeth_ok I1 ea c hm l ?_
  refine PySem.W.callWith_K (first := [.ref a]) (h₀ := X.base) I.ok.mod.kin hm.kp (thn (ha.run pos pins s1 σ H1 _ I1 q) fun us s2 ⟨vs, H2, I2, r, q2⟩ => ⟨I2.kIn, ?_⟩) hst hpl
  exact run_fnS (us := .ref a :: us) (vs := .ref a :: vs) F hr hb (hx σ) I2 (.cons rfl r) q2
theorem pe_methE0 {E : L2.St → XK} {pl : Sem Bool} (he : PE X o ta) (c : Cls X.K C) (hm : Meth X.K C m f) (F : FnOk X.prog X.w X.K X.mg X.base CX k f fd ps sp) (hr : Room k X.A) (hb : Binds X.K fd ps []) (hx : ∀ σ, PassesAt CX X σ (E σ))
    (ht : eval (.Call (.Attribute o m apos) [] [] pos) X.env = (do
      let ov ← eval o X.env
      standAt apos.atName
      let (f, first) ← holding [ov] (getMethod ov m pl)
      callWith pos f first (backTo pos (starEach [] X.env)) (backToKw pos (keywordEach [] X.env))) := by rfl) :
    PE X (.Call (.Attribute o m apos) [] [] pos) (tMethE C m sp E ta tNil) := by
  refine ⟨fun pins s σ H Q I h => ?_⟩
  refine PySem.W.methodCall_KW (pl := pl) (thn (he.run pins s σ H _ I h) fun u s1 ⟨x, H1, I1, rx, a, dx, fs, ex, ea, l, q⟩ => ?_) ht
  subst ex
  obtain rfl : u = Value.ref a := rx
  refine getmeth_ok I1 ea c hm l ?_
  exact PySem.W.callWith_K0 (first := [.ref a]) I1.kIn hm.kp (run_fnS (us := [.ref a]) (vs := [.ref a]) F hr hb (hx σ) I1 (.cons rfl .nil) q)
end
end My
set_option maxRecDepth 100000
set_option maxHeartbeats 4000000
set_option exponentiation.threshold 10000
namespace My
open PySem L2
theorem hu10 {A : Around} {k : Nat} (hr : Room k A) : A.units + 10 < cLine := by have := hr.un; omega
/-- text * int -/
theorem op_mulS {X : Cx} : OpR X (binaryOp .Mult) (fun x y H Q => ∃ (z : Str) (n : Int), x = .str z ∧ y = .int n ∧ MulOk z n ∧ Q (.str (Txt.mul z n)) H) := by
  intro pins s σ H x y v u Q I rx ry h
  obtain ⟨z, n, rfl, rfl, ok, q⟩ := h
  obtain ⟨t, rfl⟩ := rx
  obtain ⟨t', rfl⟩ := ry
  exact PySem.SB.mul ok fun t' k => ⟨.str (Txt.mul z n), H, I.tok _, ⟨_, rfl⟩, q⟩
def rLen2 (K : PySem.W.Frag) : List V → Hp → VK → Prop := fun xs H Q => ∃ p ys, xs = [.ref p] ∧ (SqL K H p ys ∨ SqT K H p ys) ∧ Q (.int ys.length) H
def rListOf (K : PySem.W.Frag) : List V → Hp → VK → Prop := fun xs H Q => ∃ p ys, xs = [.ref p] ∧ (SqL K H p ys ∨ SqT K H p ys) ∧ ∀ l, H l = none → Q (.ref l) (upd H l (.lst ys))
def rTupOf (K : PySem.W.Frag) : List V → Hp → VK → Prop := fun xs H Q => ∃ p ys, xs = [.ref p] ∧ ((SqL K H p ys ∧ ∀ l, H l = none → Q (.ref l) (upd H l (.tup ys))) ∨ (SqT K H p ys ∧ Q (.ref p) H))
/-! ### texts in lists -/
abbrev sv (ss : List Str) : List V := ss.map V.str
theorem len_sv (ss : List Str) : (sv ss).length = ss.length := List.length_map ..
theorem flat_sv (ss : List Str) : (sv ss).all flatV = true := by
  rw [List.all_eq_true]; intro x hx; obtain ⟨s, _, rfl⟩ := List.mem_map.mp hx; rfl
theorem eqV_str (a b : Str) : eqV (.str a) (.str b) = decide (a = b) := by
  first | rfl | (simp only [eqV]; by_cases h : a = b <;> simp [h])
theorem inV_str (x : Str) (ss : List Str) : inV (.str x) (sv ss) = decide (x ∈ ss) := by
  unfold inV
  rw [Bool.eq_iff_iff, List.any_eq_true, decide_eq_true_iff]
  constructor
  · rintro ⟨y, hy, e⟩
    obtain ⟨s, hs, rfl⟩ := List.mem_map.mp hy
    rw [eqV_str, decide_eq_true_iff] at e
    rw [← e]; exact hs
  · intro h
    exact ⟨.str x, List.mem_map.mpr ⟨x, h, rfl⟩, by rw [eqV_str]; simp⟩
theorem sv_get {ss : List Str} {i : Nat} {v : V} (h : (sv ss)[i]? = some v) : ∃ s, ss[i]? = some s ∧ v = .str s := by
  rw [List.getElem?_map] at h
  cases e : ss[i]? with
  | none => rw [e] at h; cases h
  | some t => rw [e] at h; exact ⟨t, rfl, (Option.some.inj h).symm⟩
theorem cut_take {xs : List V} {k : Nat} (h : k ≤ xs.length) : cutV xs none (some (k : Int)) = xs.take k := by
  unfold cutV
  rw [HT.sIx_none, HT.sIx_nat, Nat.min_eq_left h]
  simp
theorem cut_drop {xs : List V} {k : Nat} (h : k ≤ xs.length) : cutV xs (some (k : Int)) none = xs.drop k := by
  unfold cutV
  rw [HT.sIx_none, HT.sIx_nat, Nat.min_eq_left h]
  rw [List.take_of_length_le (by rw [List.length_drop]; exact Nat.le_refl _)]
theorem sv_take (ss : List Str) (k : Nat) : (sv ss).take k = sv (ss.take k) := List.map_take.symm
theorem sv_drop (ss : List Str) (k : Nat) : (sv ss).drop k = sv (ss.drop k) := List.map_drop.symm
/-! ### names -/
def Letters (l : List Nat) : Prop := ∀ c ∈ l, 97 ≤ c ∧ c ≤ 122
structure Good (z : Str) : Prop where
  pos : 1 ≤ z.length
  le : z.length ≤ 8
  let_ : Letters z.cps.toList
/-! ### the first stray of a list -/
def badAt (cs ns : List Str) (i : Nat) : Bool := match ns[i]? with | some x => !decide (x ∈ cs) || decide (x ∈ ns.take i) | none => false
def stray (cs ns : List Str) : Option Nat := (List.range ns.length).find? (badAt cs ns)
def fault (cs ns : List Str) : Option Nat := match stray cs ns with | some i => some i | none => if ns.length < cs.length then some ns.length else none
def optV : Option Nat → V
  | none => .non
  | some i => .int (i : Nat)
theorem stray_some {cs ns : List Str} {i : Nat} (hi : i < ns.length) (h1 : badAt cs ns i = true) (h2 : ∀ j, j < i → badAt cs ns j = false) : stray cs ns = some i := by
  unfold stray
  rw [List.find?_range_eq_some]
  exact ⟨h1, List.mem_range.mpr hi, fun j hj => by rw [h2 j hj]; rfl⟩
theorem stray_none {cs ns : List Str} (h2 : ∀ j, j < ns.length → badAt cs ns j = false) : stray cs ns = none := by
  unfold stray
  rw [List.find?_eq_none]
  intro j hj
  rw [h2 j (List.mem_range.mp hj)]
  exact Bool.false_ne_true
theorem stray_none_iff {cs ns : List Str} : stray cs ns = none ↔ (∀ x ∈ ns, x ∈ cs) ∧ ns.Nodup := by
  unfold stray
  rw [List.find?_eq_none]
  constructor
  · intro h
    have hb : ∀ i (hi : i < ns.length), ns[i] ∈ cs ∧ ns[i] ∉ ns.take i := fun i hi => by
      have := h i (List.mem_range.mpr hi)
      unfold badAt at this
      rw [List.getElem?_eq_getElem hi] at this
      simpa using this
    refine ⟨fun x hx => ?_, ?_⟩
    · obtain ⟨i, hi, rfl⟩ := List.getElem_of_mem hx
      exact (hb i hi).1
    · rw [List.nodup_iff_pairwise_ne, List.pairwise_iff_getElem]
      intro i j hi hj hij e
      refine (hb j hj).2 ?_
      rw [← e]
      exact List.mem_take_iff_getElem.mpr ⟨i, by omega, rfl⟩
  · rintro ⟨h1, h2⟩ i hi
    have hi := List.mem_range.mp hi
    unfold badAt
    rw [List.getElem?_eq_getElem hi]
    have a := h1 _ (List.getElem_mem hi)
    have b : ns[i] ∉ ns.take i := fun hm => by
      obtain ⟨j, hj, e⟩ := List.mem_take_iff_getElem.mp hm
      rw [List.nodup_iff_pairwise_ne, List.pairwise_iff_getElem] at h2
      exact h2 j i (by omega) hi (by omega) e
    simp [a, b]
theorem fault_none {cs ns : List Str} (h1 : ∀ x ∈ ns, x ∈ cs) (h2 : ns.Nodup) (h3 : cs.length ≤ ns.length) : fault cs ns = none := by
  unfold fault
  rw [stray_none_iff.mpr ⟨h1, h2⟩]
  show (if ns.length < cs.length then _ else _) = _
  rw [if_neg (by omega)]
/-- the law's list of what is wrong -/
def wrongs (cs ns : List Str) : List Nat := (List.range ns.length).filter (badAt cs ns) ++ if ns.length < cs.length then [ns.length] else []
theorem wrongs_head (cs ns : List Str) : (wrongs cs ns).head? = fault cs ns := by
  unfold wrongs fault stray
  rw [List.head?_append, List.head?_filter]
  cases (List.range ns.length).find? (badAt cs ns) with
  | some i => rfl
  | none =>
    show Option.or none _ = (if _ then _ else _)
    split <;> rfl
/-! ### runs -/
def runAt (fl : List Bool) (i : Nat) : Bool := fl.getD i false && !(decide (0 < i) && fl.getD (i - 1) false)
def runs (fl : List Bool) : Nat := ((List.range fl.length).filter (runAt fl)).length
theorem runs_le (fl : List Bool) : runs fl ≤ fl.length := by
  unfold runs
  have := List.length_filter_le (runAt fl) (List.range fl.length)
  rw [List.length_range] at this
  exact this
/-! ### the picture -/
theorem mul_len (n : Int) : (Txt.mul (" " : Str) n).length = n.toNat := by
  unfold Txt.mul
  have h1 : ((" " : Str).length == 0) = false := by decide
  split
  · rename_i h
    show 0 = n.toNat
    omega
  · rename_i h
    split
    · rename_i h'
      rw [h1, Bool.or_false, beq_iff_eq] at h'
      subst h'
      rfl
    · have e : ∀ (m : Nat) (acc : Array Nat), ((List.replicate m (" " : Str).cps).foldl (· ++ ·) acc).size = acc.size + m := by
        intro m
        induction m with
        | zero => intro acc; rfl
        | succ m ih =>
          intro acc
          rw [List.replicate_succ, List.foldl_cons, ih, Array.size_append]
          have : (" " : Str).cps.size = 1 := by decide
          rw [this]; omega
      show ((List.replicate n.toNat (" " : Str).cps).foldl (· ++ ·) #[]).size = n.toNat
      rw [e]
      show 0 + n.toNat = _
      omega
theorem mul_cps (n : Int) : (Txt.mul (" " : Str) n).cps = Array.replicate n.toNat 32 := by
  unfold Txt.mul
  have h1 : ((" " : Str).length == 0) = false := by decide
  split
  · rename_i h
    have : n.toNat = 0 := by omega
    rw [this]
    rfl
  · rename_i h
    split
    · rename_i h'
      rw [h1, Bool.or_false, beq_iff_eq] at h'
      subst h'
      decide
    · have e : ∀ (m : Nat) (acc : Array Nat), ((List.replicate m (" " : Str).cps).foldl (· ++ ·) acc) = acc ++ Array.replicate m 32 := by
        intro m
        induction m with
        | zero => intro acc; simp
        | succ m ih =>
          intro acc
          rw [List.replicate_succ, List.foldl_cons, ih]
          have : (" " : Str).cps = #[32] := by decide
          rw [this, Array.append_assoc]
          congr 1
          apply Array.toList_inj.mp
          simp [List.replicate_succ]
      show ((List.replicate n.toNat (" " : Str).cps).foldl (· ++ ·) #[]) = _
      rw [e]
      simp
theorem str_ext {a b : Str} (h : a.cps = b.cps) : a = b := by cases a; cases b; exact congrArg Str.mk h
theorem append_cps (a b : Str) : (a ++ b).cps = a.cps ++ b.cps := rfl
theorem ljust_eq (x : Str) (W : Int) : Txt.ljust x W = x ++ Txt.mul " " (W - x.length) := by
  apply str_ext
  rw [append_cps, mul_cps]
  unfold Txt.ljust
  split
  · rename_i h
    have : (W - (x.length : Int)).toNat = 0 := by omega
    rw [this]; simp
  · rename_i h
    have : W.toNat - x.length = (W - (x.length : Int)).toNat := by omega
    rw [this]
    show Array.replicate 0 32 ++ x.cps ++ Array.replicate _ 32 = _
    simp
theorem ljust_len (x : Str) (W : Int) : (Txt.ljust x W).length = x.length + (W - x.length).toNat := by
  rw [ljust_eq, Str.length_append, mul_len]
def fill (ws : List Str) (W : Int) : Str := Txt.join " " (ws.map fun x => Txt.ljust x W)
def marks (order row : List Str) : List Str := order.map fun x => if x ∈ row then ("x" : Str) else "."
def flags (order row : List Str) : List Bool := order.map fun x => decide (x ∈ row)
def num4 (n : Nat) : Str := Txt.rjust (Str.ofString (toString (n : Int))) 4
def line (order : List Str) (W : Int) (row : List Str) : Str := fill (marks order row) W ++ num4 (runs (flags order row))
def pic (order : List Str) (rows : List (List Str)) (W : Int) : Str := Txt.join "\n" (fill order W :: rows.map (line order W))
theorem num_small : ∀ n : Fin 13, (Str.ofString (toString ((n.val : Nat) : Int))).length ≤ 4 := by decide +kernel
theorem num4_len {n : Nat} (h : n ≤ 12) : (num4 n).length = 4 := by
  have hl : (Str.ofString (toString (n : Int))).length ≤ 4 := num_small ⟨n, by omega⟩
  unfold num4 Txt.rjust
  generalize Str.ofString (toString (n : Int)) = x at hl ⊢
  split
  · rename_i h4; omega
  · show (Array.replicate _ 32 ++ x.cps ++ Array.replicate 0 32).size = 4
    simp
    show (4 : Int).toNat - x.length + x.length = 4
    omega
theorem cut4 {s : Str} (h : s.length ≤ 4) : cutS (("    " : Str) ++ s) (some (-4)) none = Txt.rjust s 4 := by
  apply str_ext
  unfold cutS Txt.rjust
  have hl : (("    " : Str) ++ s).length = 4 + s.length := by rw [Str.length_append]; rfl
  have h1 : HT.sIx (("    " : Str) ++ s).length 0 (some (-4)) = s.length := by
    rw [hl]
    show (if (-4 : Int) < 0 then ((-4 : Int) + ((4 + s.length : Nat) : Int)).toNat else min (-4 : Int).toNat (4 + s.length)) = s.length
    rw [if_pos (by decide)]; omega
  rw [h1, HT.sIx_none, hl]
  have e4 : (("    " : Str)).cps.toList = List.replicate 4 32 := by decide
  apply Array.toList_inj.mp
  rw [append_cps, Array.toList_append, e4]
  have h5 : 4 + s.length - s.length = 4 := by omega
  rw [h5]
  have hs : s.cps.toList.length = s.length := by simp [Str.length]
  have e6 : (List.replicate 4 32 ++ s.cps.toList).drop s.length = List.replicate (4 - s.length) 32 ++ s.cps.toList := by
    rw [List.drop_append_of_le_length (by simp; exact h), List.drop_replicate]
  rw [e6, List.take_of_length_le (by rw [List.length_append, List.length_replicate, hs]; omega)]
  split
  · rename_i h4
    have : 4 - s.length = 0 := by omega
    rw [this]; rfl
  · show _ = (Array.replicate ((4 : Int).toNat - s.length) 32 ++ s.cps ++ Array.replicate 0 32).toList
    simp
/-! ### lengths -/
theorem sum_le {ys : List Nat} {B : Nat} (h : ∀ y ∈ ys, y ≤ B) : ys.sum ≤ ys.length * B := by
  induction ys with
  | nil => simp
  | cons y r ih =>
    have h1 := h y List.mem_cons_self
    have h2 := ih fun x hx => h x (List.mem_cons_of_mem _ hx)
    rw [List.sum_cons, List.length_cons, Nat.succ_mul]
    omega
theorem join_len (a : Str) : ∀ ys : List Str, (Txt.join a ys).length ≤ (ys.map (·.length)).sum + ys.length * a.length
  | [] => by
    show (Txt.join a []).length ≤ 0 + 0 * a.length
    have : (Txt.join a []).length = 0 := rfl
    omega
  | [x] => by
    have : Txt.join a [x] = x := by rw [TL.join_eq]; rfl
    rw [this]
    simp
  | x :: y :: r => by
    have e : Txt.join a (x :: y :: r) = x ++ a ++ Txt.join a (y :: r) := by rw [TL.join_eq, TL.join_eq]; rfl
    have ih := join_len a (y :: r)
    rw [e, Str.length_append, Str.length_append, List.map_cons, List.sum_cons, List.length_cons, Nat.succ_mul]
    omega
theorem fits_join {a : Str} {ys : List Str} {B n : Nat} (h : ∀ y ∈ ys, y.length ≤ B) (hn : ys.length ≤ n) (hs : n * (B + a.length) ≤ 16777216) : (ys.map (·.length)).sum + ys.length * a.length ≤ 16777216 ∧ (Txt.join a ys).length ≤ n * (B + a.length) := by
  have h1 : (ys.map (·.length)).sum ≤ (ys.map (·.length)).length * B := sum_le fun y hy => by
    obtain ⟨z, hz, rfl⟩ := List.mem_map.mp hy
    exact h z hz
  rw [List.length_map] at h1
  have h2 := join_len a ys
  have h3 : ys.length * (B + a.length) ≤ n * (B + a.length) := Nat.mul_le_mul_right _ hn
  rw [Nat.mul_add] at h3
  omega
/-! ### names, in general -/
def okName (z : Str) : Bool := decide (1 ≤ z.length) && (decide (z.length ≤ 8) && z.cps.toList.all fun c => decide (97 ≤ c ∧ c ≤ 122))
theorem okName_iff {z : Str} : okName z = true ↔ Good z := by
  unfold okName
  rw [Bool.and_eq_true, Bool.and_eq_true, decide_eq_true_iff, decide_eq_true_iff, List.all_eq_true]
  exact ⟨fun ⟨a, b, c⟩ => ⟨a, b, fun x hx => of_decide_eq_true (c x hx)⟩, fun h => ⟨h.pos, h.le, fun x hx => decide_eq_true (h.let_ x hx)⟩⟩
def badName (ns : List Str) (i : Nat) : Bool := match ns[i]? with | some x => !okName x || decide (x ∈ ns.take i) | none => false
def firstBad (ns : List Str) : Option Nat := (List.range ns.length).find? (badName ns)
theorem firstBad_some {ns : List Str} {i : Nat} (hi : i < ns.length) (h1 : badName ns i = true) (h2 : ∀ j, j < i → badName ns j = false) : firstBad ns = some i := by
  unfold firstBad
  rw [List.find?_range_eq_some]
  exact ⟨h1, List.mem_range.mpr hi, fun j hj => by rw [h2 j hj]; rfl⟩
theorem firstBad_none {ns : List Str} (h2 : ∀ j, j < ns.length → badName ns j = false) : firstBad ns = none := by
  unfold firstBad
  rw [List.find?_eq_none]
  intro j hj
  rw [h2 j (List.mem_range.mp hj)]
  exact Bool.false_ne_true
theorem firstBad_none_iff {ns : List Str} : firstBad ns = none ↔ (∀ x ∈ ns, Good x) ∧ ns.Nodup := by
  unfold firstBad
  rw [List.find?_eq_none]
  constructor
  · intro h
    have hb : ∀ i (hi : i < ns.length), Good ns[i] ∧ ns[i] ∉ ns.take i := fun i hi => by
      have := h i (List.mem_range.mpr hi)
      unfold badName at this
      rw [List.getElem?_eq_getElem hi] at this
      simp at this
      exact ⟨okName_iff.mp this.1, this.2⟩
    refine ⟨fun x hx => ?_, ?_⟩
    · obtain ⟨i, hi, rfl⟩ := List.getElem_of_mem hx
      exact (hb i hi).1
    · rw [List.nodup_iff_pairwise_ne, List.pairwise_iff_getElem]
      intro i j hi hj hij e
      refine (hb j hj).2 ?_
      rw [← e]
      exact List.mem_take_iff_getElem.mpr ⟨i, by omega, rfl⟩
  · rintro ⟨h1, h2⟩ i hi
    have hi := List.mem_range.mp hi
    unfold badName
    rw [List.getElem?_eq_getElem hi]
    have a := okName_iff.mpr (h1 _ (List.getElem_mem hi))
    have b : ns[i] ∉ ns.take i := fun hm => by
      obtain ⟨j, hj, e⟩ := List.mem_take_iff_getElem.mp hm
      rw [List.nodup_iff_pairwise_ne, List.pairwise_iff_getElem] at h2
      exact h2 j i (by omega) hi (by omega) e
    simp [a, b]
/-! ### strip -/
theorem strip_all {x y : Str} : Txt.stripChars x y = Str.empty ↔ ∀ c ∈ x.cps.toList, y.cps.contains c = true := by
  obtain ⟨a0, a1, a2⟩ := PyProof.Rows.lo_facts y.cps.contains x
  obtain ⟨b0, b1, b2, b3⟩ := PyProof.Rows.hi_facts y.cps.contains x (PySem.stripLo y.cps.contains true x) a0
  unfold Txt.stripChars
  rw [PyProof.Rows.stripBy_eq]
  generalize PySem.stripLo y.cps.contains true x = lo at *
  generalize PySem.stripHi y.cps.contains true x lo = hi at *
  have hl : (Builtin.Str.strSub x lo hi).length = hi - lo := by
    show (x.cps.extract lo hi).size = hi - lo
    rw [Array.size_extract]
    have : x.cps.size = x.length := rfl
    rw [this]
    have := b1
    omega
  have gd : ∀ k (hk : k < x.length), x.cps.getD k 0 = x.cps[k]'hk := fun k hk => by
    show x.cps.getD k 0 = _
    unfold Array.getD
    exact dif_pos hk
  constructor
  · intro e c hc
    rw [e] at hl
    have hl : 0 = hi - lo := hl
    rw [Array.mem_toList_iff] at hc
    obtain ⟨k, hk, rfl⟩ := Array.getElem_of_mem hc
    by_cases h : k < lo
    · have := a1 k h; rw [gd k hk] at this; exact this
    · have := b2 k (by omega) hk; rw [gd k hk] at this; exact this
  · intro h
    have lo_eq : lo = x.length := by
      rcases a2 with e | e
      · exact e
      · by_cases hlt : lo < x.length
        · rw [gd lo hlt, h _ (by rw [Array.mem_toList_iff]; exact Array.getElem_mem hlt)] at e; cases e
        · omega
    have : hi - lo = 0 := by omega
    rw [this] at hl
    apply str_ext
    exact Array.eq_empty_of_size_eq_zero hl
theorem alpha_has : ∀ c : Nat, (("abcdefghijklmnopqrstuvwxyz" : Str)).cps.contains c = true ↔ 97 ≤ c ∧ c ≤ 122 := by
  intro c
  rw [Array.contains_iff_mem]
  have e : (("abcdefghijklmnopqrstuvwxyz" : Str)).cps.toList = (List.range 26).map (97 + ·) := by decide +kernel
  rw [← Array.mem_toList_iff, e, List.mem_map]
  constructor
  · rintro ⟨a, ha, rfl⟩
    have := List.mem_range.mp ha
    omega
  · rintro ⟨h1, h2⟩
    exact ⟨c - 97, List.mem_range.mpr (by omega), by omega⟩
theorem strip_ok {z : Str} : Txt.stripChars z "abcdefghijklmnopqrstuvwxyz" = Str.empty ↔ Letters z.cps.toList := by
  rw [strip_all]
  exact ⟨fun h c hc => (alpha_has c).mp (h c hc), fun h c hc => (alpha_has c).mpr (h c hc)⟩
theorem empty_eq : ("" : Str) = Str.empty := by decide
theorem okName_and {z : Str} : okName z = true ↔ Txt.stripChars z "abcdefghijklmnopqrstuvwxyz" = ("" : Str) ∧ (0 < z.length ∧ z.length < 9) := by
  rw [okName_iff, empty_eq, strip_ok]
  exact ⟨fun g => ⟨g.let_, by have := g.pos; omega, by have := g.le; omega⟩, fun ⟨a, b, c⟩ => ⟨by omega, by omega, a⟩⟩
/-- // by any divisor but 0 below 2 ^ 9000 -/
def CDivX (_ j : Int) : Prop := j ≠ 0 ∧ j.natAbs < 2 ^ 9000
theorem op_fdivX {X : Cx} : OpR X (binaryOp .FloorDiv) (rI CDivX fun i j => .int (i.fdiv j)) := opI fun i j _ _ _ _ _ hc q =>
  PyProof.Rows.floordiv_int hc.1 q (.inl (PyProof.noPylong_of_log2 (PySem.Flt.log2_lt_of (by decide) hc.2)))
theorem itN {c A B : Prop} [Decidable c] (hc : ¬ c) (h : B) : if decide c = true then A else B := by
  rw [decide_eq_false hc]; exact iteF h
theorem itY {c A B : Prop} [Decidable c] (hc : c) (h : A) : if decide c = true then A else B := by
  rw [decide_eq_true hc]; exact iteT h
theorem ifT {b : Bool} {A B : Prop} (hb : b = true) (h : A) : if b = true then A else B := by rw [if_pos hb]; exact h
theorem ifF {b : Bool} {A B : Prop} (hb : b = false) (h : B) : if b = true then A else B := by rw [if_neg (by rw [hb]; decide)]; exact h
theorem same_new {H : Hp} {l : Addr} {o : HO} (h : H l = none) : Same H (upd H l o) := fun b u e => by rw [upd_ne (ne_of_none e h)]; exact e
theorem _root_.L2.Same.tup {K : PySem.W.Frag} {H H' : Hp} {a : Addr} {xs : List V} (e : Same H H') (h : SqT K H a xs) : SqT K H' a xs := by
  rcases h with (r | ⟨o, r⟩) | z
  · exact .inl (.inl (e _ _ r))
  · exact .inl (.inr ⟨o, e _ _ r⟩)
  · exact .inr z
/-! ### a comprehension's list -/
/-- the heap H1 has grown, at D stands fm i -/
def PvS (H1 : Hp) (D : Addr) (fm : Nat → List V) (i : Nat) (H : Hp) : Prop := Same H1 H ∧ H D = some (.lst (fm i))
theorem pv0 {H1 : Hp} {D : Addr} {fm : Nat → List V} (hD : H1 D = none) (h : fm 0 = []) : PvS H1 D fm 0 (upd H1 D (.lst [])) := ⟨same_new hD, by rw [h]; exact upd_same⟩
theorem PvS.more {H1 H H' : Hp} {D : Addr} {fm : Nat → List V} {i : Nat} (p : PvS H1 D fm i H) (s : Same H H') : PvS H1 D fm i H' := ⟨p.1.trans s, s _ _ p.2⟩
theorem PvS.push {H1 H : Hp} {D : Addr} {fm : Nat → List V} {i : Nat} {y : V} (p : PvS H1 D fm i H) (hD : H1 D = none) (h : fm (i + 1) = fm i ++ [y]) (hl : (fm i).length ≤ 1000000) :
    ∃ acc, H D = some (.lst acc) ∧ acc.length < sizeLine ∧ PvS H1 D fm (i + 1) (upd H D (.lst (acc ++ [y]))) := by
  refine ⟨fm i, p.2, Nat.lt_of_le_of_lt hl (by decide), fun b o e => ?_, ?_⟩
  · rw [upd_ne (ne_of_none e hD)]; exact p.1 _ _ e
  · rw [h]; exact upd_same
theorem PvS.skip {H1 H : Hp} {D : Addr} {fm : Nat → List V} {i : Nat} (p : PvS H1 D fm i H) (h : fm (i + 1) = fm i) : PvS H1 D fm (i + 1) H := ⟨p.1, by rw [h]; exact p.2⟩
theorem small_int {n : Nat} (h : n ≤ 1000000) : n < sizeLine := Nat.lt_of_le_of_lt h (by decide)
theorem take_succ {α : Type} {xs : List α} {i : Nat} {x : α} (h : xs[i]? = some x) : xs.take (i + 1) = xs.take i ++ [x] := by
  rw [List.take_succ, h]; rfl
theorem not_take {ns : List Str} {i : Nat} {z : Str} (nd : ns.Nodup) (hz : ns[i]? = some z) : z ∉ ns.take i := by
  intro hm
  obtain ⟨j, hj, e⟩ := List.mem_take_iff_getElem.mp hm
  obtain ⟨hi, e2⟩ := List.getElem?_eq_some_iff.mp hz
  rw [List.nodup_iff_pairwise_ne, List.pairwise_iff_getElem] at nd
  exact nd j i (by omega) hi (by omega) (e.trans e2.symm)
theorem itNe {A B : Prop} {x y : V} (h : x = y) (h2 : B) : if (!decide (x = y)) = true then A else B := by
  rw [decide_eq_true h]; exact iteF h2
theorem itNeN {A B : Prop} {x y : V} (h : x ≠ y) (h2 : A) : if (!decide (x = y)) = true then A else B := by
  rw [decide_eq_false h]; exact iteT h2
/-- a def that may raise -/
theorem funX {P : Program} {w : World} {K : PySem.W.Frag} {mg : Str → Option Value} {base : Heap} {CX : CXT} {x qual : Str} {st : Stmt} {f : Addr} {fd : FuncData} {N ps : List Str} {k : Nat} {sp : Sp} (F : Fun K x qual st f fd) (S : FnScope N ps (defScope st)) (len : ∀ vs H Q E, sp vs H Q E → vs.length = ps.length)
    (hbody : ∀ (cdv : Value) (A : Around) (outer : List Env) (s : Shared) (H : Hp) (vs : List V) (Q : VK) (E : XK), Room k (A.deeper (PyProof.Rows.envOfC qual (defScope st) s.heap.objs.size f cdv)) → sp vs H Q E →
      ∃ t, PSs (cxOf CX P w K mg base N qual (defScope st) f cdv A outer s H E) (defBody st) t ∧ t { nx := fun _ H' => Q .non H', rt := Q } (L2.start N vs) H) : FnOk P w K mg base CX (k + 1) f fd ps sp := by
  obtain ⟨oc, od, kV, doc, pm, an, cdv, ct, osl, rfl, lk, hcd⟩ := F.ex
  exact fn_of lk hcd S len fun A outer s H vs Q E hr hsp => hbody cdv A outer s H vs Q E hr hsp
theorem seq_upd {K : PySem.W.Frag} {H : Hp} {a b : Addr} {xs : List V} {u o : HO} (h : SqL K H a xs) (hb : H b = some u) (h1 : ∀ ys, u ≠ .lst ys) (h2 : ∀ c d, u ≠ .frz c d) : SqL K (upd H b o) a xs := by
  rcases h with (r | ⟨c, r⟩) | z
  · exact .inl (.inl (by rw [upd_ne (ne_of r hb (fun z => h1 _ z.symm))]; exact r))
  · exact .inl (.inr ⟨c, by rw [upd_ne (ne_of r hb (fun z => h2 _ _ z.symm))]; exact r⟩)
  · exact .inr z
/-! ### tables -/
theorem krc : ¬ (("columns" : Str) = "rows") := by decide +kernel
def fldsT (ct rt : Addr) : List (Str × V) := putF "rows" (.ref rt) (putF "columns" (.ref ct) [])
theorem fldsT_columns (ct rt : Addr) : (fldsT ct rt).lookup ("columns" : Str) = some (.ref ct) := by
  unfold fldsT; rw [lookup_putF, if_neg krc, lookup_putF, if_pos rfl]
theorem fldsT_rows (ct rt : Addr) : (fldsT ct rt).lookup ("rows" : Str) = some (.ref rt) := by
  unfold fldsT; rw [lookup_putF, if_pos rfl]
/-- at ts stand the lists (or tuples) of texts rs -/
structure Lss (f : List V → HO) (H : Hp) (ts : List Addr) (rs : List (List Str)) : Prop where
  len : ts.length = rs.length
  at_ : ∀ (i : Nat) (t : Addr) (r : List Str), ts[i]? = some t → rs[i]? = some r → H t = some (f (sv r))
theorem Lss.same {f : List V → HO} {H H' : Hp} {ts : List Addr} {rs : List (List Str)} (h : Lss f H ts rs) (e : Same H H') : Lss f H' ts rs := ⟨h.len, fun i t x a b => e _ _ (h.at_ i t x a b)⟩
theorem Lss.nil {f : List V → HO} {H : Hp} : Lss f H [] [] := ⟨rfl, fun i t x h => by simp at h⟩
theorem Lss.app {f : List V → HO} {H : Hp} {ts : List Addr} {rs : List (List Str)} {t : Addr} {r : List Str} (h : Lss f H ts rs) (ht : H t = some (f (sv r))) : Lss f H (ts ++ [t]) (rs ++ [r]) := by
  refine ⟨by rw [List.length_append, List.length_append, h.len]; rfl, fun i u y a b => ?_⟩
  rcases Nat.lt_trichotomy i ts.length with c | c | c
  · rw [List.getElem?_append_left c] at a
    rw [List.getElem?_append_left (by rw [← h.len]; exact c)] at b
    exact h.at_ i u y a b
  · rw [c, List.getElem?_append_right (Nat.le_refl _), Nat.sub_self] at a
    rw [c, h.len, List.getElem?_append_right (Nat.le_refl _), Nat.sub_self] at b
    cases a; cases b; exact ht
  · rw [List.getElem?_append_right (by omega), List.getElem?_eq_none (by simp; omega)] at a
    cases a
theorem Lss.get {f : List V → HO} {H : Hp} {ts : List Addr} {rs : List (List Str)} (h : Lss f H ts rs) {i : Nat} {t : Addr} (hi : ts[i]? = some t) : ∃ r, rs[i]? = some r ∧ H t = some (f (sv r)) := by
  have hx : i < rs.length := by rw [← h.len]; exact (List.getElem?_eq_some_iff.mp hi).1
  exact ⟨rs[i], List.getElem?_eq_getElem hx, h.at_ i _ _ hi (List.getElem?_eq_getElem hx)⟩
theorem refs_get {ts : List Addr} {i : Nat} {v : V} (h : (ts.map V.ref)[i]? = some v) : ∃ t, ts[i]? = some t ∧ v = .ref t := by
  rw [List.getElem?_map] at h
  cases e : ts[i]? with
  | none => rw [e] at h; cases h
  | some t => rw [e] at h; exact ⟨t, rfl, (Option.some.inj h).symm⟩
/-- the row in the columns' sequence -/
def canon (cs r : List Str) : List Str := cs.filter fun x => decide (x ∈ r)
theorem canon_T {l r : List Str} {z : Str} (hm : z ∈ r) : canon (l ++ [z]) r = canon l r ++ [z] := by
  unfold canon; rw [List.filter_append]; simp [hm]
theorem canon_F {l r : List Str} {z : Str} (hm : z ∉ r) : canon (l ++ [z]) r = canon l r := by
  unfold canon; rw [List.filter_append]; simp [hm]
theorem Lss.updT {H : Hp} {ts : List Addr} {rs : List (List Str)} {l : Addr} {u o : HO} (h : Lss .tup H ts rs) (hl : H l = some u) (hu : ∀ xs, u ≠ .tup xs) : Lss .tup (upd H l o) ts rs := ⟨h.len, fun i t x a b => by
  have := h.at_ i t x a b
  rw [upd_ne (ne_of this hl (fun z => hu _ z.symm))]
  exact this⟩
/-- the table with the columns cs and the rows rs stands at p -/
def Tb (C : Addr) (H : Hp) (p : Addr) (cs : List Str) (rs : List (List Str)) : Prop :=
  ∃ dx ct rt ts, H p = some (.ins C dx (fldsT ct rt)) ∧ H ct = some (.tup (sv cs)) ∧ H rt = some (.tup (ts.map V.ref)) ∧ Lss .tup H ts (rs.map (canon cs))
theorem Tb.same {C : Addr} {H H' : Hp} {p : Addr} {cs : List Str} {rs : List (List Str)} (h : Tb C H p cs rs) (e : Same H H') : Tb C H' p cs rs :=
  let ⟨dx, ct, rt, ts, h1, h2, h3, h4⟩ := h; ⟨dx, ct, rt, ts, e _ _ h1, e _ _ h2, e _ _ h3, h4.same e⟩
theorem exc_same {H : Hp} {a d : Addr} {o1 o2 o3 o4 : HO} (ha : H a = none) (hd : H d = none) : Same H (upd (L2.del (upd (upd (upd H a o1) d o2) a o3) a) d o4) := fun b o e => by
  rw [upd_ne (ne_of_none e hd), L2.del_ne (ne_of_none e ha), upd_ne (ne_of_none e ha), upd_ne (ne_of_none e hd), upd_ne (ne_of_none e ha)]
  exact e
theorem fault_lt {cs ns : List Str} {i : Nat} (h : fault cs ns = some i) : i ≤ ns.length := by
  unfold fault at h
  cases hs : stray cs ns with
  | some j =>
    rw [hs] at h
    cases h
    unfold stray at hs
    rw [List.find?_range_eq_some] at hs
    exact Nat.le_of_lt (List.mem_range.mp hs.2.1)
  | none =>
    rw [hs] at h
    have h : (if ns.length < cs.length then some ns.length else none) = some i := h
    split at h
    · cases h; exact Nat.le_refl _
    · cases h
section
variable {K : PySem.W.Frag}
theorem passS0 {X : Cx} : ∀ σ, PassesAt CX0 X σ ((fun _ => E0) σ) := fun _ _ _ _ _ _ _ h => h.elim
theorem fnIn_of {x qual : Str} {st : Stmt} {f : Addr} {fd : FuncData} (F : Fun K x qual st f fd) : PySem.W.fnIn K f = true := by
  obtain ⟨oc, od, kV, doc, pm, an, cdv, ct, osl, rfl, lk, hcd⟩ := F.ex
  unfold PySem.W.fnIn
  rw [lk]
end
section
variable {P : Program} {w : World} {K : PySem.W.Frag} {mg : Str → Option Value} {base : Heap}
/-- a promise under which nothing is raised -/
theorem quiet {k : Nat} {f : Addr} {fd : FuncData} {ps : List Str} {sp sp' : Sp} (F : FnOk P w K mg base (L2.CX P w) k f fd ps sp) (h : ∀ vs H Q E, sp' vs H Q E → sp vs H Q E0) : FnOk P w K mg base CX0 k f fd ps sp' :=
  ⟨fun vs H Q E q => F.len _ _ _ _ (h _ _ _ _ q), fun A outer s H args us vs Q E hr he hb hv hs => codeAny_mono (F.run A outer s H args us vs Q E0 hr he hb hv (h _ _ _ _ hs)) fun r s' g => by
    cases r with
    | ok fl => cases fl <;> exact g
    | error e => obtain ⟨_, _, _, _, _, _, _, _, _, _, _, _, z⟩ := g; exact z.elim⟩
/-- two promises of one def -/
theorem fnok_or {CX : CXT} {k : Nat} {f : Addr} {fd : FuncData} {ps : List Str} {sp sp' : Sp} (F : FnOk P w K mg base CX k f fd ps sp) (G : FnOk P w K mg base CX k f fd ps sp') : FnOk P w K mg base CX k f fd ps (fun vs H Q E => sp vs H Q E ∨ sp' vs H Q E) :=
  ⟨fun vs H Q E h => h.elim (F.len vs H Q E) (G.len vs H Q E), fun A outer s H args us vs Q E hr he hb hv hs => hs.elim (F.run A outer s H args us vs Q E hr he hb hv) (G.run A outer s H args us vs Q E hr he hb hv)⟩
end
theorem hu65 {A : Around} {k : Nat} (hr : Room k A) : A.units + 65 < cLine := by have := hr.un; omega
theorem cut_sv (os : List Str) (lo hi : Option Int) : ∃ ys : List Str, cutV (sv os) lo hi = sv ys ∧ ys.Sublist os := by
  unfold cutV
  rw [sv_drop, sv_take]
  exact ⟨_, rfl, (List.take_sublist _ _).trans (List.drop_sublist _ _)⟩
theorem sv_app (a b : List Str) : sv a ++ sv b = sv (a ++ b) := List.map_append.symm
/-- texts that can be laid -/
abbrev Okz (z : Str) : Prop := PyData.canLay0 (.str z) = true
theorem okz_good {z : Str} (h : Good z) : Okz z := by
  show PyData.canLay0 (.str z) = true
  unfold PyData.canLay0 PyData.strOk
  rw [Array.all_eq_true]
  intro i hi
  have := h.let_ z.cps[i] (by rw [Array.mem_toList_iff]; exact Array.getElem_mem hi)
  exact decide_eq_true (by omega)
abbrev pd (ss : List Str) : List PyData := ss.map PyData.str
theorem lay_all {ss : List Str} (h : ∀ z ∈ ss, Okz z) : PyData.canLayAll0 (pd ss) = true := by
  induction ss with
  | nil => rfl
  | cons a t ih =>
    show (PyData.canLay0 (.str a) && PyData.canLayAll0 (pd t)) = true
    rw [h a List.mem_cons_self, ih fun z hz => h z (List.mem_cons_of_mem _ hz)]; rfl
theorem depth_pd : ∀ ss : List Str, PyData.depthAll (pd ss) ≤ 1
  | [] => by simp [PyData.depthAll]
  | n :: r => by
    have e : PyData.depthAll (r.map PyData.str) ≤ 1 := depth_pd r
    simp only [List.map_cons, PyData.depthAll, PyData.depth]
    omega
theorem shaped_pd {ss : List Str} (h : ∀ z ∈ ss, Okz z) : SeqAt.shaped (.list (pd ss)) = true := by
  have h1 := depth_pd ss
  show (PyData.canLay0 (.list (pd ss)) && decide (PyData.depth (.list (pd ss)) ≤ 64)) = true
  rw [Bool.and_eq_true]
  exact ⟨by simp only [PyData.canLay0]; exact lay_all h, decide_eq_true (by simp only [PyData.depth]; omega)⟩
theorem dp_pd {K : PySem.W.Frag} {H : Hp} : ∀ ss : List Str, DpAll K H (sv ss) (pd ss)
  | [] => .nil
  | s :: r => .cons (.str s) (dp_pd r)
theorem eqv_pd {ss : List Str} (h : ∀ z ∈ ss, Okz z) : PyData.eqv (.list (pd ss)) (.list (pd ss)) = true := SeqAt.eqv_refl _ (by simp only [PyData.canLay0]; exact lay_all h)
theorem dpAll_bl {K : PySem.W.Frag} {H : Hp} : ∀ bs : List Bool, DpAll K H (bs.map V.bl) (bs.map PyData.bool)
  | [] => .nil
  | b :: bs => .cons (.bl b) (dpAll_bl bs)
theorem exm_self {K : PySem.W.Frag} {C : Addr} (hb : PySem.W.subIn K (.ref C) (.type "BaseException") = some true) (hi : PySem.W.isClsIn K C = true) (ht : PySem.W.typeIn K (.ref C) = some (.type "type")) (hs : PySem.W.subIn K (.ref C) (.ref C) = some true) :
    PySem.W.exmOne K (.ref C) (.ref C) = some true := by
  unfold PySem.W.exmOne
  rw [hb, if_pos (by rfl)]
  show (if ((PySem.W.clsIn K C).isSome && PySem.W.typeIn K (.ref C) == some (.type "type")) = true then _ else _) = _
  rw [if_pos (by
    rw [ht]
    have : (PySem.W.clsIn K C).isSome = true := hi
    rw [this]; simp)]
  exact hs
theorem nd_len : ∀ (x cs : List Str), x.Nodup → (∀ y ∈ x, y ∈ cs) → x.length ≤ cs.length
  | [], _, _, _ => Nat.zero_le _
  | a :: t, cs, nd, h => by
    have nd := List.nodup_cons.mp nd
    have hp := List.perm_cons_erase (h a List.mem_cons_self)
    have := nd_len t (cs.erase a) nd.2 fun y hy => by
      have hy' := h y (List.mem_cons_of_mem _ hy)
      exact (List.mem_erase_of_ne (fun e => nd.1 (by rw [← e]; exact hy))).mpr hy'
    have e := hp.length_eq
    rw [List.length_cons] at e ⊢
    omega
theorem at_sv {ss : List Str} {j : Int} (h0 : 0 ≤ j) (h1 : j < ss.length) : ∃ z, z ∈ ss ∧ atI (sv ss) j = some (V.str z) := by
  obtain ⟨n, rfl⟩ := Int.eq_ofNat_of_zero_le h0
  have hn : n < ss.length := by omega
  exact ⟨ss[n], List.getElem_mem hn, atI_nat (by rw [List.getElem?_map, List.getElem?_eq_getElem hn]; rfl)⟩
theorem sv3 (a b : List Str) (x : Str) : sv a ++ [V.str x] ++ sv b = sv (a ++ [x] ++ b) := by simp [sv]
theorem mulW {i j : Int} (hi : i.natAbs < 2 ^ 9000) (hj : j.natAbs < 2 ^ 9000) : CMulW i j := wide_mul hi hj (by decide) (by decide) (by decide)
theorem atI_ok {xs : List Int} {j : Int} (h0 : 0 ≤ j) (h1 : j < xs.length) : ∃ v, v ∈ xs ∧ atI (xs.map V.int) j = some (V.int v) := by
  have hj : j.toNat < xs.length := by omega
  refine ⟨xs[j.toNat], List.getElem_mem hj, ?_⟩
  have e : (xs.map V.int)[j.toNat]? = some (V.int xs[j.toNat]) := by rw [List.getElem?_map, List.getElem?_eq_getElem hj]; rfl
  have := atI_nat e
  rw [show ((j.toNat : Nat) : Int) = j by omega] at this
  exact this
theorem len_map_int (xs : List Int) : (xs.map V.int).length = xs.length := List.length_map ..
/-- a pool of draws -/
def Pool (ns : List Int) : Prop := ∀ x ∈ ns, 0 ≤ x ∧ x < 27720
theorem Pool.nil : Pool [] := fun x h => nomatch h
theorem Pool.app {ns : List Int} {x : Int} (h : Pool ns) (h0 : 0 ≤ x) (h1 : x < 27720) : Pool (ns ++ [x]) := fun y hy => by
  rcases List.mem_append.mp hy with hy | hy
  · exact h y hy
  · cases List.mem_singleton.mp hy; exact ⟨h0, h1⟩
theorem upd_app {H : Hp} {l : Addr} {ps : List Int} {x : Int} : upd (upd H l (.lst (ps.map V.int))) l (.lst (ps.map V.int ++ [V.int x])) = upd H l (.lst ((ps ++ [x]).map V.int)) := by
  rw [upd_upd, List.map_append]
  rfl
theorem mod_sz {x m : Int} {k : Nat} (h : 0 < m) (hk : m.natAbs < 2 ^ k) : (x % m).natAbs < 2 ^ k := by
  have h1 := Int.emod_nonneg x (Int.ne_of_gt h)
  have h2 := Int.emod_lt_of_pos x h
  omega
/-! ### drawn names -/
theorem alpha_at : ∀ k : Fin 26, atI (("abcdefghijklmnopqrstuvwxyz" : Str)).cps.toList ((k.val : Nat) : Int) = some (97 + k.val) := by decide +kernel
theorem alpha_ix : ∀ k : Fin 26, Builtin.Str.occurrences ("abcdefghijklmnopqrstuvwxyz" : Str) ⟨#[97 + k.val]⟩ 0 (("abcdefghijklmnopqrstuvwxyz" : Str)).length 1 = [k.val] := by decide +kernel
theorem alpha_len : (("abcdefghijklmnopqrstuvwxyz" : Str)).length ≤ sizeLine := by decide
theorem Letters.app {l m : List Nat} (h : Letters l) (k : Letters m) : Letters (l ++ m) := fun c hc => (List.mem_append.mp hc).elim (h c) (k c)
theorem Letters.one {c : Nat} (h0 : 97 ≤ c) (h1 : c ≤ 122) : Letters [c] := fun d hd => by rw [List.mem_singleton.mp hd]; exact ⟨h0, h1⟩
/-- the word whose last sign has gone t signs on -/
def wat (pre : List Nat) (c t : Nat) : Str := ⟨(pre ++ [97 + (c - 97 + t) % 26]).toArray⟩
theorem wat_len {pre : List Nat} {c t : Nat} : (wat pre c t).length = pre.length + 1 := by
  show ((pre ++ [97 + (c - 97 + t) % 26]).toArray).size = _
  rw [List.size_toArray, List.length_append]; rfl
theorem wat_last {pre : List Nat} {c t : Nat} : atI (wat pre c t).cps.toList (-1) = some (97 + (c - 97 + t) % 26) := by
  show atI (pre ++ [97 + (c - 97 + t) % 26]) (-1) = _
  unfold atI ixN
  rw [if_neg (by decide)]
  have h1 : ((pre ++ [97 + (c - 97 + t) % 26]).length : Int) = (pre.length : Int) + 1 := by rw [List.length_append]; rfl
  have e : (-1 + ((pre ++ [97 + (c - 97 + t) % 26]).length : Int)).toNat = pre.length := by omega
  rw [if_pos (by omega), e]
  simp
theorem wat_next {pre : List Nat} {c t : Nat} : wat pre c (t + 1) = cutS (wat pre c t) none (some (-1)) ++ (⟨#[97 + ((c - 97 + t) % 26 + 1) % 26]⟩ : Str) := by
  apply str_ext
  apply Array.toList_inj.mp
  rw [append_cps, Array.toList_append]
  show pre ++ [97 + (c - 97 + (t + 1)) % 26] = (((pre ++ [97 + (c - 97 + t) % 26]).drop 0).take _) ++ [97 + ((c - 97 + t) % 26 + 1) % 26]
  have h2 : HT.sIx (wat pre c t).length (wat pre c t).length (some (-1)) - HT.sIx (wat pre c t).length 0 none = pre.length := by
    rw [wat_len]
    unfold HT.sIx
    simp
    omega
  rw [h2, List.drop_zero, List.take_left]
  have : (c - 97 + (t + 1)) % 26 = ((c - 97 + t) % 26 + 1) % 26 := by omega
  rw [this]
theorem nodup_le {l : List Str} : ∀ {m : List Str}, l.Nodup → (∀ x ∈ l, x ∈ m) → l.length ≤ m.length := by
  induction l with
  | nil => intro m _ _; exact Nat.zero_le _
  | cons a t ih =>
    intro m nd h
    rw [List.nodup_cons] at nd
    have ha := h a List.mem_cons_self
    have := ih (m := m.erase a) nd.2 fun x hx => (List.mem_erase_of_ne (fun e => nd.1 (by rw [← e]; exact hx))).mpr (h x (List.mem_cons_of_mem _ hx))
    rw [List.length_erase_of_mem ha] at this
    have : 0 < m.length := List.length_pos_of_mem ha
    rw [List.length_cons]
    omega
theorem wat_many {pre : List Nat} {c : Nat} {ns : List Str} (h : ∀ t, t < 26 → wat pre c t ∈ ns) : 26 ≤ ns.length := by
  have nd : ((List.range 26).map (wat pre c)).Nodup := by
    rw [List.nodup_iff_pairwise_ne, List.pairwise_map]
    refine List.Pairwise.imp_of_mem (fun {a b} ha hb hab e => hab ?_) (List.nodup_iff_pairwise_ne.mp List.nodup_range)
    have e1 : pre ++ [97 + (c - 97 + a) % 26] = pre ++ [97 + (c - 97 + b) % 26] := congrArg (fun z : Str => z.cps.toList) e
    have e2 := List.append_cancel_left e1
    have e3 : 97 + (c - 97 + a) % 26 = 97 + (c - 97 + b) % 26 := List.head_eq_of_cons_eq e2
    have := List.mem_range.mp ha
    have := List.mem_range.mp hb
    omega
  have := nodup_le nd fun x hx => by
    obtain ⟨t, ht, rfl⟩ := List.mem_map.mp hx
    exact h t (List.mem_range.mp ht)
  rw [List.length_map, List.length_range] at this
  exact this
theorem sv_inj {a b : List Str} (h : sv a = sv b) : a = b := by
  have : ∀ {a b : List Str}, sv a = sv b → a = b := fun {a b} => by
    intro h
    induction a generalizing b with
    | nil => cases b with | nil => rfl | cons _ _ => cases h
    | cons x t ih =>
      cases b with
      | nil => cases h
      | cons y u =>
        have h1 := List.cons.inj h
        rw [V.str.inj h1.1, ih h1.2]
  exact this h
theorem sv_snoc (l : List Str) (x : Str) : sv (l ++ [x]) = sv l ++ [V.str x] := List.map_append
theorem sEq {a b : Str} (h : a = b) : decide (V.str a = V.str b) = true := by rw [h]; exact decide_eq_true rfl
theorem sNe {a b : Str} (h : a ≠ b) : decide (V.str a = V.str b) = false := decide_eq_false fun e => h (V.str.inj e)
theorem iEq {a b : Int} (h : a = b) : decide (V.int a = V.int b) = true := by rw [h]; exact decide_eq_true rfl
theorem iNe {a b : Int} (h : a ≠ b) : decide (V.int a = V.int b) = false := decide_eq_false fun e => h (V.int.inj e)
theorem atR_of {us : List Addr} {i : Nat} {u : Addr} (h : us[i]? = some u) : atI (us.map V.ref) (i : Int) = some (V.ref u) := atI_nat (by rw [List.getElem?_map, h]; rfl)
theorem Lss.ex {f : List V → HO} {H : Hp} {us : List Addr} {ls : List (List Str)} (h : Lss f H us ls) {i : Nat} (hi : i < ls.length) : ∃ u w, us[i]? = some u ∧ ls[i]? = some w ∧ H u = some (f (sv w)) := by
  have hi' : i < us.length := by rw [h.len]; exact hi
  exact ⟨us[i], ls[i], List.getElem?_eq_getElem hi', List.getElem?_eq_getElem hi, h.at_ i _ _ (List.getElem?_eq_getElem hi') (List.getElem?_eq_getElem hi)⟩
theorem kit_F {K : PySem.W.Frag} {C D : Addr} (hi : PySem.W.isClsIn K D = true) (ht : PySem.W.typeIn K (.ref D) = some (.type "type")) (hs : PySem.W.subIn K (.ref C) (.ref D) = some false) (hss : PySem.W.subIn K (.ref C) (.ref C) = some true) : PySem.W.kitOne K (.ref C) (.ref D) = some false :=
  kit_own hi ht hs (.inl fun e => by rw [← e, hss] at hs; cases hs)
theorem exm_F {K : PySem.W.Frag} {C D : Addr} (hb : PySem.W.subIn K (.ref D) (.type "BaseException") = some true) (hi : PySem.W.isClsIn K D = true) (ht : PySem.W.typeIn K (.ref D) = some (.type "type")) (hs : PySem.W.subIn K (.ref C) (.ref D) = some false) : PySem.W.exmOne K (.ref C) (.ref D) = some false := by
  unfold PySem.W.exmOne
  rw [hb, if_pos (by rfl)]
  show (if ((PySem.W.clsIn K D).isSome && PySem.W.typeIn K (.ref D) == some (.type "type")) = true then _ else _) = _
  rw [if_pos (by
    rw [ht]
    have : (PySem.W.clsIn K D).isSome = true := hi
    rw [this]; simp)]
  exact hs
theorem pEq {a b : Bool} (h : a = b) : decide (V.bl a = V.bl b) = true := by rw [h]; exact decide_eq_true rfl
theorem pNe {a b : Bool} (h : a ≠ b) : decide (V.bl a = V.bl b) = false := decide_eq_false fun e => h (V.bl.inj e)
theorem sIx_lo {n k : Nat} (h : k ≤ n) : HT.sIx n 0 (some (k : Int)) = k := by rw [HT.sIx_nat, Nat.min_eq_left h]
theorem sIx_hi {n k : Nat} (h : k ≤ n) : HT.sIx n n (some (k : Int)) = k := by rw [HT.sIx_nat, Nat.min_eq_left h]
theorem layc {a : PyData} {r : List PyData} (h : PyData.canLay0 a = true) (k : PyData.canLayAll0 r = true) : PyData.canLayAll0 (a :: r) = true := by
  show (PyData.canLay0 a && PyData.canLayAll0 r) = true
  rw [h, k]; rfl
theorem lay_int (i : Int) : PyData.canLay0 (.int i) = true := by simp [PyData.canLay0]
theorem shapedL {xs : List PyData} (h1 : PyData.canLayAll0 xs = true) (h2 : PyData.depthAll xs ≤ 20) : SeqAt.shaped (.list xs) = true := by
  show (PyData.canLay0 (.list xs) && decide (PyData.depth (.list xs) ≤ 64)) = true
  rw [Bool.and_eq_true]
  exact ⟨by simp only [PyData.canLay0]; exact h1, decide_eq_true (by simp only [PyData.depth]; omega)⟩
theorem shapedT {xs : List PyData} (h1 : PyData.canLayAll0 xs = true) (h2 : PyData.depthAll xs ≤ 20) : SeqAt.shaped (.tuple xs) = true := by
  show (PyData.canLay0 (.tuple xs) && decide (PyData.depth (.tuple xs) ≤ 64)) = true
  rw [Bool.and_eq_true]
  exact ⟨by simp only [PyData.canLay0]; exact h1, decide_eq_true (by simp only [PyData.depth]; omega)⟩
theorem eqvL {xs : List PyData} (h1 : PyData.canLayAll0 xs = true) : PyData.eqv (.list xs) (.list xs) = true := SeqAt.eqv_refl _ (by simp only [PyData.canLay0]; exact h1)
theorem eqvT {xs : List PyData} (h1 : PyData.canLayAll0 xs = true) : PyData.eqv (.tuple xs) (.tuple xs) = true := SeqAt.eqv_refl _ (by simp only [PyData.canLay0]; exact h1)
theorem layL {xs : List PyData} (h1 : PyData.canLayAll0 xs = true) : PyData.canLay0 (.list xs) = true := by simp only [PyData.canLay0]; exact h1
theorem layT {xs : List PyData} (h1 : PyData.canLayAll0 xs = true) : PyData.canLay0 (.tuple xs) = true := by simp only [PyData.canLay0]; exact h1
theorem none_of {H H' : Hp} (s : Same H H') {a : Addr} (h : H' a = none) : H a = none := by
  cases e : H a with
  | none => rfl
  | some o => rw [s _ _ e] at h; cases h
theorem Lss.updNe {f : List V → HO} {H : Hp} {ts : List Addr} {rs : List (List Str)} {l : Addr} {o : HO} (h : Lss f H ts rs) (hne : ∀ (i : Nat) (t : Addr), ts[i]? = some t → t ≠ l) : Lss f (upd H l o) ts rs :=
  ⟨h.len, fun i t x a b => by rw [upd_ne (hne i t a)]; exact h.at_ i t x a b⟩
theorem ne_app {ts : List Addr} {a l : Addr} (h : ∀ (i : Nat) (t : Addr), ts[i]? = some t → t ≠ l) (ha : a ≠ l) : ∀ (i : Nat) (t : Addr), (ts ++ [a])[i]? = some t → t ≠ l := fun i t e => by
  rcases List.mem_append.mp (List.mem_of_getElem? e) with hm | hm
  · obtain ⟨j, hj, rfl⟩ := List.getElem_of_mem hm
    exact h j _ (List.getElem?_eq_getElem hj)
  · rw [List.mem_singleton.mp hm]; exact ha
theorem noT {r : Addr} : ∀ (i : Nat) (t : Addr), ([] : List Addr)[i]? = some t → t ≠ r := fun i t h => by simp at h
/-- a comprehension's list of new lists -/
def LcL (H1 : Hp) (D : Addr) (lls : List (List Str)) (H : Hp) : Prop := Same H1 H ∧ ∃ us : List Addr, H D = some (.lst (us.map V.ref)) ∧ Lss .lst H us lls ∧ ∀ (i : Nat) (t : Addr), us[i]? = some t → t ≠ D
theorem lcl0 {H1 : Hp} {D : Addr} (hD : H1 D = none) : LcL H1 D [] (upd H1 D (.lst [])) := ⟨same_new hD, [], upd_same, Lss.nil, noT⟩
theorem LcL.push {H1 H H' : Hp} {D a : Addr} {lls : List (List Str)} {y : List Str} (q : LcL H1 D lls H) (hD : H1 D = none) (s : Same H H') (ha : H' a = some (.lst (sv y))) (hne : a ≠ D) (hl : lls.length ≤ 1000001) :
    ∃ acc, H' D = some (.lst acc) ∧ acc.length < sizeLine ∧ LcL H1 D (lls ++ [y]) (upd H' D (.lst (acc ++ [.ref a]))) := by
  obtain ⟨sm, us, hd, hls, hn⟩ := q
  refine ⟨us.map V.ref, s _ _ hd, Nat.lt_of_le_of_lt (by rw [List.length_map, hls.len]; exact hl) (by decide), fun b o e => ?_, us ++ [a], ?_, ?_, ne_app hn hne⟩
  · rw [upd_ne (ne_of_none e hD)]; exact s _ _ (sm _ _ e)
  · rw [List.map_append]; exact upd_same
  · exact ((hls.same s).app ha).updNe (ne_app hn hne)
theorem LcL.new {H1 H : Hp} {D a : Addr} {lls : List (List Str)} {y : List Str} (q : LcL H1 D lls H) (hD : H1 D = none) (ha : H a = none) (hl : lls.length ≤ 1000001) :
    ∃ acc, (upd H a (.lst (sv y))) D = some (.lst acc) ∧ acc.length < sizeLine ∧ LcL H1 D (lls ++ [y]) (upd (upd H a (.lst (sv y))) D (.lst (acc ++ [.ref a]))) :=
  q.push hD (same_new ha) upd_same (by obtain ⟨_, us, hd, _⟩ := q; exact (ne_of_none hd ha).symm) hl

theorem okz_low {z : Str} (h : ∀ c ∈ z.cps.toList, c ≤ 122) : Okz z := by
  show PyData.canLay0 (.str z) = true
  unfold PyData.canLay0 PyData.strOk
  rw [Array.all_eq_true]
  intro i hi
  have := h z.cps[i] (by rw [Array.mem_toList_iff]; exact Array.getElem_mem hi)
  exact decide_eq_true (by omega)
theorem okz_sp {z : Str} (g : Good z) : Okz (z ++ " ") := okz_low fun c hc => by
  rw [append_cps, Array.toList_append] at hc
  rcases List.mem_append.mp hc with hc | hc
  · exact (g.let_ c hc).2
  · rw [show (" " : Str).cps.toList = [32] by decide] at hc; rw [List.mem_singleton.mp hc]; decide
theorem okz_A {z : Str} (g : Good z) : Okz ("A" ++ z) := okz_low fun c hc => by
  rw [append_cps, Array.toList_append] at hc
  rcases List.mem_append.mp hc with hc | hc
  · rw [show ("A" : Str).cps.toList = [65] by decide] at hc; rw [List.mem_singleton.mp hc]; decide
  · exact (g.let_ c hc).2
/-- a list of tuples of names -/
abbrev pdd (rs : List (List Str)) : List PyData := rs.map fun r => PyData.tuple (pd r)
theorem lay_pdd {rs : List (List Str)} (h : ∀ r ∈ rs, ∀ z ∈ r, Okz z) : PyData.canLayAll0 (pdd rs) = true := by
  induction rs with
  | nil => rfl
  | cons a t ih =>
    show (PyData.canLay0 (.tuple (pd a)) && PyData.canLayAll0 (pdd t)) = true
    rw [ih fun z hz => h z (List.mem_cons_of_mem _ hz), show PyData.canLay0 (.tuple (pd a)) = true by simp only [PyData.canLay0]; exact lay_all (h a List.mem_cons_self)]; rfl
theorem depth_pdd : ∀ rs : List (List Str), PyData.depthAll (pdd rs) ≤ 3
  | [] => by simp [PyData.depthAll]
  | r :: t => by
    have h1 : PyData.depthAll (t.map fun r => PyData.tuple (pd r)) ≤ 3 := depth_pdd t
    have h2 := depth_pd r
    simp only [List.map_cons, PyData.depthAll, PyData.depth]
    omega
theorem shaped_pdd {rs : List (List Str)} (h : ∀ r ∈ rs, ∀ z ∈ r, Okz z) : SeqAt.shaped (.list (pdd rs)) = true := by
  have h1 := depth_pdd rs
  show (PyData.canLay0 (.list (pdd rs)) && decide (PyData.depth (.list (pdd rs)) ≤ 64)) = true
  rw [Bool.and_eq_true]
  exact ⟨by simp only [PyData.canLay0]; exact lay_pdd h, decide_eq_true (by simp only [PyData.depth]; omega)⟩
theorem eqv_pdd {rs : List (List Str)} (h : ∀ r ∈ rs, ∀ z ∈ r, Okz z) : PyData.eqv (.list (pdd rs)) (.list (pdd rs)) = true := SeqAt.eqv_refl _ (by simp only [PyData.canLay0]; exact lay_pdd h)
theorem dp_pdd {K : PySem.W.Frag} {H : Hp} : ∀ {ts : List Addr} {rs : List (List Str)}, Lss .tup H ts rs → DpAll K H (ts.map V.ref) (pdd rs)
  | [], [], _ => .nil
  | [], _ :: _, h => nomatch h.len
  | _ :: _, [], h => nomatch h.len
  | t :: ts, r :: rs, h => .cons (.tup (xs := sv r) (SqT.of (h.at_ 0 t r rfl rfl)) (dp_pd r)) (dp_pdd ⟨Nat.succ.inj h.len, fun i u x a b => h.at_ (i + 1) u x a b⟩)
/-! ### == of data -/
mutual
/-- no truth values, no dicts -/
def nb : PyData → Bool
  | .none => true
  | .int _ => true
  | .str _ => true
  | .bool _ => false
  | .dict _ => false
  | .list xs => nbAll xs
  | .tuple xs => nbAll xs
def nbAll : List PyData → Bool
  | [] => true
  | x :: xs => nb x && nbAll xs
end
mutual
theorem eqv_iff : ∀ (d e : PyData), nb d = true → nb e = true → (PyData.eqv d e = true ↔ d = e)
  | .none, e, _, h => by cases e <;> simp [PyData.eqv]
  | .int i, e, _, h => by
    cases e <;> first | (simp only [nb] at h; cases h; done) | simp [PyData.eqv]
  | .str i, e, _, h => by cases e <;> simp [PyData.eqv]
  | .bool _, _, h, _ => by simp [nb] at h
  | .dict _, _, h, _ => by simp [nb] at h
  | .list xs, e, h, h' => by
    cases e <;> first | (simp [PyData.eqv]; done) | skip
    rename_i ys
    simp only [PyData.eqv, PyData.list.injEq]
    exact eqvAll_iff xs ys (by simpa [nb] using h) (by simpa [nb] using h')
  | .tuple xs, e, h, h' => by
    cases e <;> first | (simp [PyData.eqv]; done) | skip
    rename_i ys
    simp only [PyData.eqv, PyData.tuple.injEq]
    exact eqvAll_iff xs ys (by simpa [nb] using h) (by simpa [nb] using h')
theorem eqvAll_iff : ∀ (xs ys : List PyData), nbAll xs = true → nbAll ys = true → (PyData.eqvAll xs ys = true ↔ xs = ys)
  | [], [], _, _ => by simp [PyData.eqvAll]
  | [], _ :: _, _, _ => by simp [PyData.eqvAll]
  | _ :: _, [], _, _ => by simp [PyData.eqvAll]
  | x :: xs, y :: ys, h, h' => by
    simp only [nbAll, Bool.and_eq_true] at h h'
    simp only [PyData.eqvAll, Bool.and_eq_true, eqv_iff x y h.1 h'.1, eqvAll_iff xs ys h.2 h'.2, List.cons.injEq]
end
theorem nb_pd (ss : List Str) : nbAll (pd ss) = true := by
  induction ss with
  | nil => rfl
  | cons a t ih => show (true && nbAll (pd t)) = true; rw [ih]; rfl
theorem pd_inj {a b : List Str} : pd a = pd b ↔ a = b := by
  constructor
  · intro h
    have := congrArg (List.map fun d : PyData => match d with | .str x => x | _ => ("" : Str)) h
    rw [List.map_map, List.map_map] at this
    simpa [Function.comp_def] using this
  · intro h; rw [h]
theorem eqv_L (a b : List Str) : PyData.eqv (.list (pd a)) (.list (pd b)) = decide (a = b) := by
  rw [Bool.eq_iff_iff, decide_eq_true_iff, eqv_iff (.list (pd a)) (.list (pd b)) (by simp only [nb]; exact nb_pd a) (by simp only [nb]; exact nb_pd b), PyData.list.injEq, pd_inj]
theorem eqv_T (a b : List Str) : PyData.eqv (.tuple (pd a)) (.tuple (pd b)) = decide (a = b) := by
  rw [Bool.eq_iff_iff, decide_eq_true_iff, eqv_iff (.tuple (pd a)) (.tuple (pd b)) (by simp only [nb]; exact nb_pd a) (by simp only [nb]; exact nb_pd b), PyData.tuple.injEq, pd_inj]
theorem shaped_pdT {ss : List Str} (h : ∀ z ∈ ss, Okz z) : SeqAt.shaped (.tuple (pd ss)) = true := shapedT (lay_all h) (Nat.le_trans (depth_pd ss) (by decide))
theorem any_pdd (rs : List (List Str)) (a : List Str) : ((pdd rs).any fun z => PyData.eqv z (.tuple (pd a))) = decide (a ∈ rs) := by
  rw [Bool.eq_iff_iff, List.any_eq_true, decide_eq_true_iff]
  constructor
  · rintro ⟨d, hd, e⟩
    obtain ⟨r, hr, rfl⟩ := List.mem_map.mp hd
    rw [eqv_T, decide_eq_true_iff] at e
    rw [← e]; exact hr
  · intro h
    exact ⟨_, List.mem_map.mpr ⟨a, h, rfl⟩, by rw [eqv_T]; exact decide_eq_true rfl⟩
theorem okz_low' {z : Str} (h : z.cps.toList.all (· < 256) = true) : Okz z := by
  show PyData.canLay0 (.str z) = true
  unfold PyData.canLay0 PyData.strOk
  rw [Array.all_eq_true]
  intro i hi
  have := List.all_eq_true.mp h z.cps[i] (by rw [Array.mem_toList_iff]; exact Array.getElem_mem hi)
  have := of_decide_eq_true this
  exact decide_eq_true (by omega)
end My
set_option maxRecDepth 100000
set_option maxHeartbeats 4000000
set_option exponentiation.threshold 10000
namespace My
open PySem L2
abbrev rn (ns cs r : List Str) : Nat := runs (flags ns (canon cs r))
def nums (f : List Str → Bool) (rs : List (List Str)) : List Nat := (List.range rs.length).filter fun i => f (rs.getD i [])
theorem nums_le (f : List Str → Bool) (rs : List (List Str)) : (nums f rs).length ≤ rs.length := by
  have := List.length_filter_le (fun i => f (rs.getD i [])) (List.range rs.length)
  rw [List.length_range] at this
  exact this
theorem numsT {f : List Str → Bool} {rs : List (List Str)} {i : Nat} {r : List Str} (h : rs[i]? = some r) (hf : f r = true) : (((List.range (i + 1)).filter fun i => f (rs.getD i [])).map fun n => V.int (n : Nat)) = (((List.range i).filter fun i => f (rs.getD i [])).map fun n => V.int (n : Nat)) ++ [V.int (i : Nat)] := by
  have hd : rs.getD i [] = r := by rw [List.getD_eq_getElem?_getD, h]; rfl
  rw [List.range_succ, List.filter_append, List.map_append, List.filter_cons_of_pos (by rw [hd]; exact hf)]; rfl
theorem numsF {f : List Str → Bool} {rs : List (List Str)} {i : Nat} {r : List Str} (h : rs[i]? = some r) (hf : f r = false) : (((List.range (i + 1)).filter fun i => f (rs.getD i [])).map fun n => V.int (n : Nat)) = (((List.range i).filter fun i => f (rs.getD i [])).map fun n => V.int (n : Nat)) := by
  have hd : rs.getD i [] = r := by rw [List.getD_eq_getElem?_getD, h]; rfl
  rw [List.range_succ, List.filter_append, List.map_append, List.filter_cons_of_neg (by rw [hd, hf]; decide)]; simp
theorem nums_len (f : List Str → Bool) (rs : List (List Str)) (i : Nat) (hi : i ≤ 1000) : (((List.range i).filter fun i => f (rs.getD i [])).map fun n => V.int (n : Nat)).length ≤ 1000000 := by
  have := List.length_filter_le (fun i => f (rs.getD i [])) (List.range i)
  rw [List.length_range] at this
  rw [List.length_map]; omega
theorem perm_of_fault {cs ns : List Str} (nc : cs.Nodup) (h : fault cs ns = none) : (∀ x ∈ ns, x ∈ cs) ∧ ns.Nodup ∧ ns.Perm cs := by
  unfold fault at h
  cases hs : stray cs ns with
  | some i => rw [hs] at h; cases h
  | none =>
    rw [hs] at h
    have h : (if ns.length < cs.length then some ns.length else none) = none := h
    have hl : cs.length ≤ ns.length := by
      by_cases z : ns.length < cs.length
      · rw [if_pos z] at h; cases h
      · omega
    obtain ⟨hsub, nd⟩ := stray_none_iff.mp hs
    refine ⟨hsub, nd, ?_⟩
    have hin : ∀ x ∈ cs, x ∈ ns := fun x hx => Classical.byContradiction fun hn => by
      have := nodup_le (l := x :: ns) (m := cs) (List.nodup_cons.mpr ⟨hn, nd⟩) fun y hy => by
        rcases List.mem_cons.mp hy with rfl | hy
        · exact hx
        · exact hsub y hy
      rw [List.length_cons] at this
      omega
    exact (List.perm_ext_iff_of_nodup nd nc).mpr fun x => ⟨hsub x, hin x⟩
theorem perm_pick {α : Type} {l : List α} {i : Nat} {x : α} (h : l[i]? = some x) : (x :: (l.take i ++ l.drop (i + 1))).Perm l := by
  have hi := (List.getElem?_eq_some_iff.mp h).1
  have e : l = l.take i ++ x :: l.drop (i + 1) := by
    conv => lhs; rw [← List.take_append_drop i l]
    rw [List.drop_eq_getElem_cons hi]
    rw [List.getElem?_eq_getElem hi] at h
    cases h; rfl
  conv => rhs; rw [e]
  exact List.perm_middle.symm
def szs : List Int := [3, 4, 5, 2, 4, 6, 3, 5, 1, 7, 0, 12, 4, 5, 3, 6, 8, 4, 5, 9, 10, 4, 7, 11]
theorem cut_takeG {xs : List V} {k : Nat} : cutV xs none (some (k : Int)) = xs.take k := by
  unfold cutV
  rw [HT.sIx_none, HT.sIx_nat]
  simp
theorem cut_dropG {xs : List V} {k : Nat} : cutV xs (some (k : Int)) none = xs.drop k := by
  unfold cutV
  rw [HT.sIx_none, HT.sIx_nat]
  rw [List.take_of_length_le (by rw [List.length_drop]; omega)]
  rcases Nat.le_total k xs.length with h | h
  · rw [Nat.min_eq_left h]
  · rw [Nat.min_eq_right h, List.drop_eq_nil_of_le (Nat.le_refl _), List.drop_eq_nil_of_le h]
theorem rot_perm {α : Type} (l : List α) (c : Nat) : (l.drop c ++ l.take c).Perm l := by
  have := List.perm_append_comm (l₁ := l.drop c) (l₂ := l.take c)
  rw [List.take_append_drop] at this
  exact this
def RowOk (cs x : List Str) : Prop := x.Nodup ∧ ∀ y ∈ x, y ∈ cs
theorem RowOk.len {cs x : List Str} (h : RowOk cs x) : x.length ≤ cs.length := nodup_le h.1 h.2
theorem RowOk.stray {cs x : List Str} (h : RowOk cs x) : stray cs x = none := stray_none_iff.mpr ⟨h.2, h.1⟩
def Rows (H : Hp) (D : Addr) (ts : List Addr) (cs : List Str) (rs : List (List Str)) : Prop := Lss .lst H ts rs ∧ (∀ t ∈ ts, t ≠ D) ∧ ∀ x ∈ rs, RowOk cs x
theorem Rows.push {H H' : Hp} {D t : Addr} {ts : List Addr} {cs ms : List Str} {rs : List (List Str)} {o : HO} (h : Rows H D ts cs rs) (s : Same H H') (ht : H' t = some (.lst (sv ms))) (hD : t ≠ D) (ok : RowOk cs ms) : Rows (upd H' D o) D (ts ++ [t]) cs (rs ++ [ms]) := by
  have h1 := (h.1.same s).app ht
  have hn : ∀ u ∈ ts ++ [t], u ≠ D := fun u hu => (List.mem_append.mp hu).elim (h.2.1 u) fun hu => by rw [List.mem_singleton.mp hu]; exact hD
  refine ⟨⟨h1.len, fun i u x a b => ?_⟩, hn, fun x hx => (List.mem_append.mp hx).elim (h.2.2 x) fun hx => by rw [List.mem_singleton.mp hx]; exact ok⟩
  rw [upd_ne (hn u (List.mem_of_getElem? a))]
  exact h1.at_ i u x a b
/-- names of the law: different, good, at most 7 signs -/
def Nms (ns : List Str) : Prop := ns.Nodup ∧ ∀ z ∈ ns, Good z ∧ z.length ≤ 7
theorem Nms.sub {a b c : List Str} (h : Nms a) (p : b.Perm a) (s : c.Sublist b) : Nms c := ⟨s.nodup (p.nodup_iff.mpr h.1), fun z hz => h.2 z (p.mem_iff.mp (s.subset hz))⟩
def W1 : List Str := ["ab", "a", "abc", "aa", "b", "ba", "aab", "bb", "abcdefg", "abcdefh", "aba", "bab"]
def W2 : List Str := ["first", "row", "end", "near", "span", "last", "before", "window", "over", "column", "not", "ask"]
theorem nms_of {ns : List Str} (h : (decide ns.Nodup && ns.all fun z => okName z && decide (z.length ≤ 7)) = true) : Nms ns := by
  rw [Bool.and_eq_true, decide_eq_true_iff, List.all_eq_true] at h
  refine ⟨h.1, fun z hz => ?_⟩
  have := h.2 z hz
  rw [Bool.and_eq_true, decide_eq_true_iff] at this
  exact ⟨okName_iff.mp this.1, this.2⟩
theorem w1_ok : Nms W1 := nms_of (by decide +kernel)
theorem w2_ok : Nms W2 := nms_of (by decide +kernel)
/-! ### words about one letter -/
def l1 (c : Nat) : Str := ⟨#[c]⟩
theorem mul1 (c : Nat) (n : Int) : (Txt.mul (l1 c) n).cps = Array.replicate n.toNat c := by
  unfold Txt.mul
  have h1 : ((l1 c).length == 0) = false := rfl
  split
  · rename_i h
    have : n.toNat = 0 := by omega
    rw [this]
    rfl
  · rename_i h
    split
    · rename_i h'
      rw [h1, Bool.or_false, beq_iff_eq] at h'
      subst h'
      rfl
    · have e : ∀ (m : Nat) (acc : Array Nat), ((List.replicate m (l1 c).cps).foldl (· ++ ·) acc) = acc ++ Array.replicate m c := by
        intro m
        induction m with
        | zero => intro acc; simp
        | succ m ih =>
          intro acc
          rw [List.replicate_succ, List.foldl_cons, ih]
          have : (l1 c).cps = #[c] := rfl
          rw [this, Array.append_assoc]
          congr 1
          apply Array.toList_inj.mp
          simp [List.replicate_succ]
      show ((List.replicate n.toNat (l1 c).cps).foldl (· ++ ·) #[]) = _
      rw [e]
      simp
theorem mulOk1 (c : Nat) {n : Int} (h0 : 0 ≤ n) (h3 : n ≤ 3) : MulOk (l1 c) n := by
  unfold MulOk
  have e : (l1 c).length = 1 := rfl
  rw [e]
  rcases (show n = 0 ∨ n = 1 ∨ n = 2 ∨ n = 3 by omega) with rfl | rfl | rfl | rfl <;> decide
/-- a side of a name: letters behind l -/
def Side (x : Str) : Prop := (∀ c ∈ x.cps.toList, 109 ≤ c ∧ c ≤ 122) ∧ x.length ≤ 3
theorem side1 {c : Nat} {n : Int} (h1 : 109 ≤ c) (h2 : c ≤ 122) (h0 : 0 ≤ n) (h3 : n ≤ 3) : Side (Txt.mul (l1 c) n) := by
  have e := mul1 c n
  refine ⟨fun d hd => ?_, ?_⟩
  · rw [e, Array.toList_replicate, List.mem_replicate] at hd
    rw [hd.2]; exact ⟨h1, h2⟩
  · show (Txt.mul (l1 c) n).cps.size ≤ 3
    rw [e, Array.size_replicate]; omega
theorem em : ("m" : Str) = l1 109 := str_ext (by decide)
theorem ez : ("z" : Str) = l1 122 := str_ext (by decide)
theorem coreT : ∀ k : Fin 12, atI (("abcdefghijkl" : Str)).cps.toList ((k.val : Nat) : Int) = some (97 + k.val) := by decide +kernel
theorem leftT : ∀ k : Fin 14, atI (("mnopqrstuvwxyz" : Str)).cps.toList ((k.val : Nat) : Int) = some (109 + k.val) := by decide +kernel
theorem rightT : ∀ k : Fin 14, atI (("zyxwvutsrqponm" : Str)).cps.toList ((k.val : Nat) : Int) = some (122 - k.val) := by decide +kernel
theorem core_at {j : Int} (h0 : 0 ≤ j) (h1 : j < 12) : atI (("abcdefghijkl" : Str)).cps.toList j = some (97 + j.toNat) := by
  have := coreT ⟨j.toNat, by omega⟩
  rw [show (((⟨j.toNat, by omega⟩ : Fin 12).val : Nat) : Int) = j from by show ((j.toNat : Nat) : Int) = j; omega] at this
  exact this
theorem left_at {j : Int} (h0 : 0 ≤ j) (h1 : j < 14) : atI (("mnopqrstuvwxyz" : Str)).cps.toList j = some (109 + j.toNat) := by
  have := leftT ⟨j.toNat, by omega⟩
  rw [show (((⟨j.toNat, by omega⟩ : Fin 14).val : Nat) : Int) = j from by show ((j.toNat : Nat) : Int) = j; omega] at this
  exact this
theorem right_at {j : Int} (h0 : 0 ≤ j) (h1 : j < 14) : atI (("zyxwvutsrqponm" : Str)).cps.toList j = some (122 - j.toNat) := by
  have := rightT ⟨j.toNat, by omega⟩
  rw [show (((⟨j.toNat, by omega⟩ : Fin 14).val : Nat) : Int) = j from by show ((j.toNat : Nat) : Int) = j; omega] at this
  exact this
theorem core_len : (("abcdefghijkl" : Str)).length ≤ sizeLine := by decide
theorem left_len : (("mnopqrstuvwxyz" : Str)).length ≤ sizeLine := by decide
theorem right_len : (("zyxwvutsrqponm" : Str)).length ≤ sizeLine := by decide
/-- a made name with the letter c -/
def Made (c : Nat) (z : Str) : Prop := Good z ∧ z.length ≤ 7 ∧ z.cps.toList.filter (fun d => decide (d < 109)) = [c]
theorem made_of {l r : Str} {c : Nat} (hl : Side l) (hr : Side r) (h1 : 97 ≤ c) (h2 : c < 109) : Made c (l ++ l1 c ++ r) := by
  have el : (l ++ l1 c ++ r).length = l.length + 1 + r.length := by rw [Str.length_append, Str.length_append]; rfl
  have ec : (l ++ l1 c ++ r).cps.toList = l.cps.toList ++ [c] ++ r.cps.toList := by
    rw [append_cps, append_cps, Array.toList_append, Array.toList_append]; rfl
  have hl2 := hl.2
  have hr2 := hr.2
  refine ⟨⟨by omega, by omega, fun d hd => ?_⟩, by omega, ?_⟩
  · rw [ec] at hd
    rcases List.mem_append.mp hd with hd | hd
    · rcases List.mem_append.mp hd with hd | hd
      · have := hl.1 d hd; omega
      · rw [List.mem_singleton] at hd; omega
    · have := hr.1 d hd; omega
  · have no : ∀ x : Str, Side x → x.cps.toList.filter (fun d => decide (d < 109)) = [] := fun x hx => by
      rw [List.filter_eq_nil_iff]
      intro d hd h
      have := hx.1 d hd
      rw [decide_eq_true_iff] at h
      omega
    have ec2 : [c].filter (fun d => decide (d < 109)) = [c] := by simp [h2]
    rw [ec, List.filter_append, List.filter_append, no l hl, no r hr, ec2]; rfl
/-- the first i made names -/
def Mades (s : Int) (ns : List Str) : Prop := ∀ (t : Nat) z, ns[t]? = some z → Made (97 + (((t : Int) * 5 + s) % 12).toNat) z
theorem Mades.app {s : Int} {ns : List Str} {z : Str} (h : Mades s ns) (hz : Made (97 + (((ns.length : Int) * 5 + s) % 12).toNat) z) : Mades s (ns ++ [z]) := fun t y e => by
  rcases Nat.lt_trichotomy t ns.length with c | c | c
  · rw [List.getElem?_append_left c] at e; exact h t y e
  · rw [c, List.getElem?_append_right (Nat.le_refl _), Nat.sub_self] at e
    cases e; rw [c]; exact hz
  · rw [List.getElem?_append_right (by omega), List.getElem?_eq_none (by simp; omega)] at e
    cases e
theorem Mades.nms {s : Int} {ns : List Str} (h : Mades s ns) (hl : ns.length ≤ 12) : Nms ns := by
  refine ⟨?_, fun z hz => ?_⟩
  · rw [List.nodup_iff_pairwise_ne, List.pairwise_iff_getElem]
    intro i j hi hj hij e
    have h1 := h i _ (List.getElem?_eq_getElem hi)
    have h2 := h j _ (List.getElem?_eq_getElem hj)
    have e1 := h1.2.2
    rw [e, h2.2.2] at e1
    have e2 := (List.cons.inj e1).1
    omega
  · obtain ⟨i, hi, e⟩ := List.getElem_of_mem hz
    have h1 := h i _ (List.getElem?_eq_getElem hi)
    rw [e] at h1
    exact ⟨h1.1, h1.2.1⟩
def unk (cs ns : List Str) : Option Str := ns.find? fun x => !decide (x ∈ cs)
theorem unk_some {cs ns : List Str} {i : Nat} {z : Str} (hz : ns[i]? = some z) (h1 : z ∉ cs) (h2 : ∀ (j : Nat) y, j < i → ns[j]? = some y → y ∈ cs) : unk cs ns = some z := by
  unfold unk
  rw [List.find?_eq_some_iff_getElem]
  obtain ⟨hi, e⟩ := List.getElem?_eq_some_iff.mp hz
  refine ⟨by simp [h1], i, hi, e, fun j hj => ?_⟩
  have := h2 j ns[j] hj (List.getElem?_eq_getElem _)
  simp [this]
theorem unk_none {cs ns : List Str} : unk cs ns = none ↔ ∀ x ∈ ns, x ∈ cs := by
  unfold unk
  rw [List.find?_eq_none]
  exact ⟨fun h x hx => by have := h x hx; simpa using this, fun h x hx => by simp [h x hx]⟩
theorem unk_mem {cs ns : List Str} {z : Str} (h : unk cs ns = some z) : z ∈ ns ∧ z ∉ cs := by
  unfold unk at h
  exact ⟨List.mem_of_find?_eq_some h, by have := List.find?_some h; simpa using this⟩
def fldsR (nt : Addr) : List (Str × V) := putF "names" (.ref nt) []
theorem fldsR_names (nt : Addr) : (fldsR nt).lookup ("names" : Str) = some (.ref nt) := by unfold fldsR; rw [lookup_putF, if_pos rfl]
def Rd (C : Addr) (H : Hp) (p : Addr) (ns : List Str) : Prop := ∃ dx nt, H p = some (.ins C dx (fldsR nt)) ∧ DT H nt (sv ns)
theorem Rd.same {C : Addr} {H H' : Hp} {p : Addr} {ns : List Str} (h : Rd C H p ns) (e : Same H H') : Rd C H' p ns := let ⟨dx, nt, h1, h2⟩ := h; ⟨dx, nt, e _ _ h1, h2.same e⟩
def ringFault (ns : List Str) : Option Nat := match firstBad ns with | some i => some i | none => if 12 < ns.length then some 12 else none
structure RingOk (ns : List Str) : Prop where
  g : ∀ z ∈ ns, Good z
  nd : ns.Nodup
  n : ns.length ≤ 12
theorem ringFault_none {ns : List Str} : ringFault ns = none ↔ RingOk ns := by
  unfold ringFault
  cases hf : firstBad ns with
  | some i =>
    constructor
    · intro h; cases h
    · intro h
      rw [firstBad_none_iff.mpr ⟨h.g, h.nd⟩] at hf; cases hf
  | none =>
    obtain ⟨a, b⟩ := firstBad_none_iff.mp hf
    constructor
    · intro h
      have h : (if 12 < ns.length then some 12 else none) = none := h
      refine ⟨a, b, ?_⟩
      by_cases q : 12 < ns.length
      · rw [if_pos q] at h; cases h
      · omega
    · intro h
      show (if 12 < ns.length then some 12 else none) = none
      rw [if_neg (by have := h.n; omega)]
theorem RingOk.perm {ns ms : List Str} (h : RingOk ns) (p : ms.Perm ns) : RingOk ms := ⟨fun z hz => h.g z (p.mem_iff.mp hz), p.nodup_iff.mpr h.nd, by rw [p.length_eq]; exact h.n⟩
def aft (ns : List Str) (i : Nat) : List Str := ns.drop (i + 1) ++ ns.take i
theorem first_ix {ns : List Str} {z : Str} (h : z ∈ ns) : ∃ i : Nat, ns[i]? = some z ∧ ∀ m, m < i → ns[m]? ≠ some z := by
  induction ns with
  | nil => cases h
  | cons a t ih =>
    by_cases e : a = z
    · exact ⟨0, by rw [e]; rfl, fun m hm => absurd hm (Nat.not_lt_zero _)⟩
    · rcases List.mem_cons.mp h with q | q
      · exact absurd q.symm e
      · obtain ⟨i, h1, h2⟩ := ih q
        refine ⟨i + 1, h1, fun m hm => ?_⟩
        cases m with
        | zero => intro z; exact e (Option.some.inj z)
        | succ m => exact h2 m (by omega)
abbrev SqA (K : PySem.W.Frag) : Hp → Addr → List V → Prop := fun H a xs => SqL K H a xs ∨ SqT K H a xs
theorem _root_.L2.Same.sqa {K : PySem.W.Frag} {H H' : Hp} {a : Addr} {xs : List V} (e : Same H H') (h : SqA K H a xs) : SqA K H' a xs := h.imp (fun z => e.seq z) fun z => e.tup z
/-! ### slices and tuple(..), whichever way the object comes -/
theorem slOT {K : PySem.W.Frag} {H : Hp} {c : Addr} {xs : List V} {lo hi : Option Int} {Q : VK} (hc : SqT K H c xs) (h : ∀ a H', Same H H' → SqT K H' a (cutV xs lo hi) → Q (.ref a) H') : rSlA K (.ref c) lo hi H Q := by
  refine ⟨c, xs, rfl, hc, fun hw => ?_, fun _ p hp => h p _ (same_new hp) (SqT.of upd_same)⟩
  have e : cutV xs lo hi = xs := by
    unfold cutV
    rw [hw.1, hw.2, Nat.sub_zero, List.drop_zero, List.take_length]
  have := h c H (Same.refl _)
  rw [e] at this
  exact this hc
theorem slO {K : PySem.W.Frag} {H : Hp} {c : Addr} {xs : List V} {lo hi : Option Int} {Q : VK} (hc : SqL K H c xs) (h : ∀ a H', Same H H' → H a = none → H' a = some (.lst (cutV xs lo hi)) → Q (.ref a) H') : rSlL K (.ref c) lo hi H Q :=
  ⟨c, xs, rfl, hc, fun p hp => h p _ (same_new hp) hp upd_same⟩
theorem tupO {K : PySem.W.Frag} {H : Hp} {p : Addr} {ys : List V} {Q : VK} (h : SqA K H p ys) (k : ∀ a H', Same H H' → SqT K H' a ys → Q (.ref a) H') : rTupOf K [.ref p] H Q := by
  refine ⟨p, ys, rfl, ?_⟩
  rcases h with h | h
  · exact .inl ⟨h, fun l hl => k l _ (same_new hl) (SqT.of upd_same)⟩
  · exact .inr ⟨h, k p H (Same.refl _) h⟩
end My
set_option maxRecDepth 100000
set_option maxHeartbeats 4000000
set_option exponentiation.threshold 10000
namespace My
open PySem L2
def top (i : Nat) : Stmt := PySem.Challenge.pw_unbrokenrows_k33_spans_and_checks.main.body.getD i (.Pass ⟨0, 0, 0, 0⟩)
abbrev s_BadOrder_init : Stmt := inClass (top 9) 0
abbrev s_BadSpan_init : Stmt := inClass (top 10) 0
abbrev s_BadYears_init : Stmt := inClass (top 11) 0
abbrev s_BrokenSpan_init : Stmt := inClass (top 12) 0
abbrev s_is_name : Stmt := top 15
abbrev s_first_bad_name : Stmt := top 16
abbrev s_first_stray : Stmt := top 17
abbrev s_order_fault : Stmt := top 19
abbrev s_count_runs : Stmt := top 20
abbrev s_runs_of : Stmt := top 21
abbrev s_check_order : Stmt := top 22
abbrev s_broken : Stmt := top 23
abbrev s_is_layout : Stmt := top 24
abbrev s_check_columns : Stmt := top 26
abbrev s_check_rows : Stmt := top 28
abbrev s_Table_in_order : Stmt := inClass (top 29) 3
abbrev s_Table_init : Stmt := inClass (top 29) 2
abbrev s_Table_getitem : Stmt := inClass (top 29) 18
abbrev s_Table_len : Stmt := inClass (top 29) 19
abbrev s_Table_eq : Stmt := inClass (top 29) 21
abbrev s_Spans_init : Stmt := inClass (top 33) 0
abbrev s_has_time : Stmt := top 34
abbrev s_are_times : Stmt := top 35
abbrev s_ends_of : Stmt := top 36
abbrev s_time_of : Stmt := top 37
abbrev s_check_years : Stmt := top 38
abbrev s_check_layout : Stmt := top 39
abbrev s_law_cell : Stmt := top 41
abbrev s_law_pool : Stmt := top 42
abbrev s_law_size : Stmt := top 43
abbrev s_law_names : Stmt := top 44
abbrev s_law_order : Stmt := top 45
abbrev s_law_row : Stmt := top 46
abbrev s_law_rows : Stmt := top 47
abbrev s_law_steps : Stmt := top 48
abbrev s_law_time : Stmt := top 49
abbrev s_law_told : Stmt := top 50
abbrev s_law_is_number : Stmt := top 51
abbrev s_law_unbroken : Stmt := top 52
abbrev s_law_bad_index : Stmt := top 53
abbrev s_law_bad_year : Stmt := top 54
abbrev s_law_due : Stmt := top 55
abbrev s_law_checked : Stmt := top 56
abbrev s_law_refused : Stmt := top 57
abbrev s_law_free_spans : Stmt := top 58
abbrev s_law_other_years : Stmt := top 59
abbrev s_law_other_order : Stmt := top 60
abbrev s_law_bad_spans : Stmt := top 61
abbrev s_law_bounds_right : Stmt := top 62
abbrev s_law_many_right : Stmt := top 63
abbrev s_law : Stmt := top 64
theorem ss_BadOrder_init : SupScope ["self", "index"] ["self", "index"] (defScope s_BadOrder_init) := ⟨rfl, rfl, rfl, by decide +kernel, rfl, by decide +kernel, by decide +kernel, by decide +kernel, rfl, rfl⟩
theorem ss_BadSpan_init : SupScope ["self", "index"] ["self", "index"] (defScope s_BadSpan_init) := ⟨rfl, rfl, rfl, by decide +kernel, rfl, by decide +kernel, by decide +kernel, by decide +kernel, rfl, rfl⟩
theorem ss_BadYears_init : SupScope ["self", "index"] ["self", "index"] (defScope s_BadYears_init) := ⟨rfl, rfl, rfl, by decide +kernel, rfl, by decide +kernel, by decide +kernel, by decide +kernel, rfl, rfl⟩
theorem ss_BrokenSpan_init : SupScope ["self", "index"] ["self", "index"] (defScope s_BrokenSpan_init) := ⟨rfl, rfl, rfl, by decide +kernel, rfl, by decide +kernel, by decide +kernel, by decide +kernel, rfl, rfl⟩
theorem sc_is_name : FnScope ["text", "sign"] ["text"] (defScope s_is_name) := ⟨rfl, rfl, rfl, by decide +kernel, rfl, by decide +kernel, by decide +kernel⟩
theorem sc_first_bad_name : FnScope ["names", "index", "name"] ["names"] (defScope s_first_bad_name) := ⟨rfl, rfl, rfl, by decide +kernel, rfl, by decide +kernel, by decide +kernel⟩
theorem sc_first_stray : FnScope ["columns", "names", "index", "name"] ["columns", "names"] (defScope s_first_stray) := ⟨rfl, rfl, rfl, by decide +kernel, rfl, by decide +kernel, by decide +kernel⟩
theorem sc_order_fault : FnScope ["columns", "order", "index"] ["columns", "order"] (defScope s_order_fault) := ⟨rfl, rfl, rfl, by decide +kernel, rfl, by decide +kernel, by decide +kernel⟩
theorem sc_count_runs : FnScope ["flags", "at", "flag"] ["flags"] (defScope s_count_runs) := ⟨rfl, rfl, rfl, by decide +kernel, rfl, by decide +kernel, by decide +kernel⟩
theorem sc_runs_of : FnScope ["row", "order", "name"] ["row", "order"] (defScope s_runs_of) := ⟨rfl, rfl, rfl, by decide +kernel, rfl, by decide +kernel, by decide +kernel⟩
theorem sc_check_order : FnScope ["table", "order", "index"] ["table", "order"] (defScope s_check_order) := ⟨rfl, rfl, rfl, by decide +kernel, rfl, by decide +kernel, by decide +kernel⟩
theorem sc_broken : FnScope ["table", "order", "number", "row"] ["table", "order"] (defScope s_broken) := ⟨rfl, rfl, rfl, by decide +kernel, rfl, by decide +kernel, by decide +kernel⟩
theorem sc_is_layout : FnScope ["table", "order"] ["table", "order"] (defScope s_is_layout) := ⟨rfl, rfl, rfl, by decide +kernel, rfl, by decide +kernel, by decide +kernel⟩
theorem sc_check_columns : FnScope ["columns", "index"] ["columns"] (defScope s_check_columns) := ⟨rfl, rfl, rfl, by decide +kernel, rfl, by decide +kernel, by decide +kernel⟩
theorem sc_check_rows : FnScope ["columns", "rows", "index", "row"] ["columns", "rows"] (defScope s_check_rows) := ⟨rfl, rfl, rfl, by decide +kernel, rfl, by decide +kernel, by decide +kernel⟩
theorem sc_Table_in_order : FnScope ["self", "names", "name"] ["self", "names"] (defScope s_Table_in_order) := ⟨rfl, rfl, rfl, by decide +kernel, rfl, by decide +kernel, by decide +kernel⟩
theorem sc_Table_init : FnScope ["self", "columns", "rows", "row"] ["self", "columns", "rows"] (defScope s_Table_init) := ⟨rfl, rfl, rfl, by decide +kernel, rfl, by decide +kernel, by decide +kernel⟩
theorem sc_Table_getitem : FnScope ["self", "at"] ["self", "at"] (defScope s_Table_getitem) := ⟨rfl, rfl, rfl, by decide +kernel, rfl, by decide +kernel, by decide +kernel⟩
theorem sc_Table_len : FnScope ["self"] ["self"] (defScope s_Table_len) := ⟨rfl, rfl, rfl, by decide +kernel, rfl, by decide +kernel, by decide +kernel⟩
theorem sc_Table_eq : FnScope ["self", "other"] ["self", "other"] (defScope s_Table_eq) := ⟨rfl, rfl, rfl, by decide +kernel, rfl, by decide +kernel, by decide +kernel⟩
theorem sc_Spans_init : FnScope ["self", "table", "told", "index", "number", "least", "most", "span"] ["self", "table", "told"] (defScope s_Spans_init) := ⟨rfl, rfl, rfl, by decide +kernel, rfl, by decide +kernel, by decide +kernel⟩
theorem sc_has_time : FnScope ["table", "number"] ["table", "number"] (defScope s_has_time) := ⟨rfl, rfl, rfl, by decide +kernel, rfl, by decide +kernel, by decide +kernel⟩
theorem sc_are_times : FnScope ["least", "most"] ["least", "most"] (defScope s_are_times) := ⟨rfl, rfl, rfl, by decide +kernel, rfl, by decide +kernel, by decide +kernel⟩
theorem sc_ends_of : FnScope ["order", "names", "found", "name"] ["order", "names"] (defScope s_ends_of) := ⟨rfl, rfl, rfl, by decide +kernel, rfl, by decide +kernel, by decide +kernel⟩
theorem sc_time_of : FnScope ["order", "years", "names", "low", "high"] ["order", "years", "names"] (defScope s_time_of) := ⟨rfl, rfl, rfl, by decide +kernel, rfl, by decide +kernel, by decide +kernel⟩
theorem sc_check_years : FnScope ["spans", "order", "years", "index", "number", "least", "most", "time"] ["spans", "order", "years"] (defScope s_check_years) := ⟨rfl, rfl, rfl, by decide +kernel, rfl, by decide +kernel, by decide +kernel⟩
theorem sc_check_layout : FnScope ["table", "order"] ["table", "order"] (defScope s_check_layout) := ⟨rfl, rfl, rfl, by decide +kernel, rfl, by decide +kernel, by decide +kernel⟩
theorem sc_law_cell : FnScope ["script", "k"] ["script", "k"] (defScope s_law_cell) := ⟨rfl, rfl, rfl, by decide +kernel, rfl, by decide +kernel, by decide +kernel⟩
theorem sc_law_pool : FnScope ["script", "k", "count", "value", "pool", "i", "first", "second", "third"] ["script", "k", "count"] (defScope s_law_pool) := ⟨rfl, rfl, rfl, by decide +kernel, rfl, by decide +kernel, by decide +kernel⟩
theorem sc_law_size : FnScope ["draw", "most", "sizes"] ["draw", "most"] (defScope s_law_size) := ⟨rfl, rfl, rfl, by decide +kernel, rfl, by decide +kernel, by decide +kernel⟩
theorem sc_law_names : FnScope ["count", "seed", "words", "cut", "names", "k", "core", "left", "right"] ["count", "seed"] (defScope s_law_names) := ⟨rfl, rfl, rfl, by decide +kernel, rfl, by decide +kernel, by decide +kernel⟩
theorem sc_law_order : FnScope ["names", "pool", "start", "left", "order", "k", "pick"] ["names", "pool", "start"] (defScope s_law_order) := ⟨rfl, rfl, rfl, by decide +kernel, rfl, by decide +kernel, by decide +kernel⟩
theorem sc_law_row : FnScope ["names", "hidden", "draw", "free", "row", "name", "size", "first", "width", "cut"] ["names", "hidden", "draw", "free"] (defScope s_law_row) := ⟨rfl, rfl, rfl, by decide +kernel, rfl, by decide +kernel, by decide +kernel⟩
theorem sc_law_rows : FnScope ["names", "hidden", "pool", "start", "count", "mode", "rows", "k", "free"] ["names", "hidden", "pool", "start", "count", "mode"] (defScope s_law_rows) := ⟨rfl, rfl, rfl, by decide +kernel, rfl, by decide +kernel, by decide +kernel⟩
theorem sc_law_steps : FnScope ["pool", "start", "count", "menu", "years", "now", "k"] ["pool", "start", "count"] (defScope s_law_steps) := ⟨rfl, rfl, rfl, by decide +kernel, rfl, by decide +kernel, by decide +kernel⟩
theorem sc_law_time : FnScope ["order", "years", "row", "places", "k"] ["order", "years", "row"] (defScope s_law_time) := ⟨rfl, rfl, rfl, by decide +kernel, rfl, by decide +kernel, by decide +kernel⟩
theorem sc_law_told : FnScope ["order", "years", "rows", "pool", "start", "count", "wild", "told", "full", "k", "draw", "number", "time", "least", "most", "wide", "i"] ["order", "years", "rows", "pool", "start", "count", "wild"] (defScope s_law_told) := ⟨rfl, rfl, rfl, by decide +kernel, rfl, by decide +kernel, by decide +kernel⟩
theorem sc_law_is_number : FnScope ["value", "least", "most"] ["value", "least", "most"] (defScope s_law_is_number) := ⟨rfl, rfl, rfl, by decide +kernel, rfl, by decide +kernel, by decide +kernel⟩
theorem sc_law_unbroken : FnScope ["order", "row", "places", "k"] ["order", "row"] (defScope s_law_unbroken) := ⟨rfl, rfl, rfl, by decide +kernel, rfl, by decide +kernel, by decide +kernel⟩
theorem sc_law_bad_index : FnScope ["names", "order", "i"] ["names", "order"] (defScope s_law_bad_index) := ⟨rfl, rfl, rfl, by decide +kernel, rfl, by decide +kernel, by decide +kernel⟩
theorem sc_law_bad_year : FnScope ["order", "years", "i"] ["order", "years"] (defScope s_law_bad_year) := ⟨rfl, rfl, rfl, by decide +kernel, rfl, by decide +kernel, by decide +kernel⟩
theorem sc_law_due : FnScope ["names", "rows", "told", "order", "years", "index", "row", "i", "time"] ["names", "rows", "told", "order", "years"] (defScope s_law_due) := ⟨rfl, rfl, rfl, by decide +kernel, rfl, by decide +kernel, by decide +kernel⟩
theorem sc_law_checked : FnScope ["spans", "order", "years", "told", "e"] ["spans", "order", "years"] (defScope s_law_checked) := ⟨rfl, rfl, rfl, by decide +kernel, rfl, by decide +kernel, by decide +kernel⟩
theorem sc_law_refused : FnScope ["table", "told", "found", "e"] ["table", "told"] (defScope s_law_refused) := ⟨rfl, rfl, rfl, by decide +kernel, rfl, by decide +kernel, by decide +kernel⟩
theorem sc_law_free_spans : FnScope ["rows", "pool", "start", "count", "told", "full", "k", "one", "other", "least", "most", "i"] ["rows", "pool", "start", "count"] (defScope s_law_free_spans) := ⟨rfl, rfl, rfl, by decide +kernel, rfl, by decide +kernel, by decide +kernel⟩
theorem sc_law_other_years : FnScope ["years", "pool", "word", "free", "at", "change", "k", "year"] ["years", "pool"] (defScope s_law_other_years) := ⟨rfl, rfl, rfl, by decide +kernel, rfl, by decide +kernel, by decide +kernel⟩
theorem sc_law_other_order : FnScope ["hidden", "names", "pool", "word", "at", "k"] ["hidden", "names", "pool"] (defScope s_law_other_order) := ⟨rfl, rfl, rfl, by decide +kernel, rfl, by decide +kernel, by decide +kernel⟩
theorem sc_law_bad_spans : FnScope ["rows", "told", "pool", "full", "empty", "at", "word", "one", "number", "least", "kinds", "kind", "i"] ["rows", "told", "pool"] (defScope s_law_bad_spans) := ⟨rfl, rfl, rfl, by decide +kernel, rfl, by decide +kernel, by decide +kernel⟩
theorem sc_law_bounds_right : FnScope ["table", "rows", "told", "pool", "bad", "more", "index", "full", "number", "many", "i", "k", "span"] ["table", "rows", "told", "pool"] (defScope s_law_bounds_right) := ⟨rfl, rfl, rfl, by decide +kernel, rfl, by decide +kernel, by decide +kernel⟩
theorem sc_law_many_right : FnScope ["table", "names", "rows", "told", "lists", "full", "longer", "spans", "pair", "due", "found", "i", "k"] ["table", "names", "rows", "told", "lists"] (defScope s_law_many_right) := ⟨rfl, rfl, rfl, by decide +kernel, rfl, by decide +kernel, by decide +kernel⟩
theorem sc_law : FnScope ["script", "p0", "p1", "p2", "size", "names", "hidden", "mode", "rows", "cell", "years", "told", "order", "lot", "handed", "table", "passed", "spans", "row", "time", "due", "back", "turned", "far", "more", "pair", "found", "k", "name", "year"] ["script"] (defScope s_law) := ⟨rfl, rfl, rfl, by decide +kernel, rfl, by decide +kernel, by decide +kernel⟩
/-- where the defs and classes stand -/
structure Ad where
  C_Table : Addr
  C_Spans : Addr
  C_RowsError : Addr
  C_Unknown : Addr
  C_Impossible : Addr
  C_BadOrder : Addr
  C_BadSpan : Addr
  C_BadYears : Addr
  C_BrokenSpan : Addr
  C_NotLayout : Addr
  a_BadOrder_init : Addr
  d_BadOrder_init : FuncData
  a_BadSpan_init : Addr
  d_BadSpan_init : FuncData
  a_BadYears_init : Addr
  d_BadYears_init : FuncData
  a_BrokenSpan_init : Addr
  d_BrokenSpan_init : FuncData
  a_is_name : Addr
  d_is_name : FuncData
  a_first_bad_name : Addr
  d_first_bad_name : FuncData
  a_first_stray : Addr
  d_first_stray : FuncData
  a_order_fault : Addr
  d_order_fault : FuncData
  a_count_runs : Addr
  d_count_runs : FuncData
  a_runs_of : Addr
  d_runs_of : FuncData
  a_check_order : Addr
  d_check_order : FuncData
  a_broken : Addr
  d_broken : FuncData
  a_is_layout : Addr
  d_is_layout : FuncData
  a_check_columns : Addr
  d_check_columns : FuncData
  a_check_rows : Addr
  d_check_rows : FuncData
  a_Table_in_order : Addr
  d_Table_in_order : FuncData
  a_Table_init : Addr
  d_Table_init : FuncData
  a_Table_getitem : Addr
  d_Table_getitem : FuncData
  a_Table_len : Addr
  d_Table_len : FuncData
  a_Table_eq : Addr
  d_Table_eq : FuncData
  a_Spans_init : Addr
  d_Spans_init : FuncData
  a_has_time : Addr
  d_has_time : FuncData
  a_are_times : Addr
  d_are_times : FuncData
  a_ends_of : Addr
  d_ends_of : FuncData
  a_time_of : Addr
  d_time_of : FuncData
  a_check_years : Addr
  d_check_years : FuncData
  a_check_layout : Addr
  d_check_layout : FuncData
  a_law_cell : Addr
  d_law_cell : FuncData
  a_law_pool : Addr
  d_law_pool : FuncData
  a_law_size : Addr
  d_law_size : FuncData
  a_law_names : Addr
  d_law_names : FuncData
  a_law_order : Addr
  d_law_order : FuncData
  a_law_row : Addr
  d_law_row : FuncData
  a_law_rows : Addr
  d_law_rows : FuncData
  a_law_steps : Addr
  d_law_steps : FuncData
  a_law_time : Addr
  d_law_time : FuncData
  a_law_told : Addr
  d_law_told : FuncData
  a_law_is_number : Addr
  d_law_is_number : FuncData
  a_law_unbroken : Addr
  d_law_unbroken : FuncData
  a_law_bad_index : Addr
  d_law_bad_index : FuncData
  a_law_bad_year : Addr
  d_law_bad_year : FuncData
  a_law_due : Addr
  d_law_due : FuncData
  a_law_checked : Addr
  d_law_checked : FuncData
  a_law_refused : Addr
  d_law_refused : FuncData
  a_law_free_spans : Addr
  d_law_free_spans : FuncData
  a_law_other_years : Addr
  d_law_other_years : FuncData
  a_law_other_order : Addr
  d_law_other_order : FuncData
  a_law_bad_spans : Addr
  d_law_bad_spans : FuncData
  a_law_bounds_right : Addr
  d_law_bounds_right : FuncData
  a_law_many_right : Addr
  d_law_many_right : FuncData
  a_law : Addr
  d_law : FuncData
  e_Table_init : Addr
/-- what the top has written -/
structure Txt (P : Program) (K : PySem.W.Frag) (mg : Str → Option Value) (A : Ad) : Prop where
  mg_Table : mg "Table" = some (.ref A.C_Table)
  cl_Table : Cls K A.C_Table
  sf_Table : PySem.W.selfFirst K A.C_Table = true
  mk_Table : Mk K A.C_Table A.a_Table_init
  c1_Table : PySem.W.findIn K (.ref A.C_Table) "__class__" = some (some (.builtin "object.__class__"))
  c3_Table : PySem.W.mroIn K A.C_Table (.type "object") = some true
  n_Table_columns : NoAttr K A.C_Table "columns"
  n_Table_rows : NoAttr K A.C_Table "rows"
  mg_Spans : mg "Spans" = some (.ref A.C_Spans)
  cl_Spans : Cls K A.C_Spans
  sf_Spans : PySem.W.selfFirst K A.C_Spans = true
  mk_Spans : Mk K A.C_Spans A.a_Spans_init
  c1_Spans : PySem.W.findIn K (.ref A.C_Spans) "__class__" = some (some (.builtin "object.__class__"))
  c3_Spans : PySem.W.mroIn K A.C_Spans (.type "object") = some true
  n_Spans_table : NoAttr K A.C_Spans "table"
  n_Spans_told : NoAttr K A.C_Spans "told"
  c2 : PySem.W.specialIn K (.builtin "object.__class__") "__get__" = some (some (.builtin "getset_descriptor.__get__"))
  c4 : PySem.W.takesIn K (.builtin "object.__class__") = some true
  mg_RowsError : mg "RowsError" = some (.ref A.C_RowsError)
  tp_RowsError : PySem.W.typeIn K (.ref A.C_RowsError) = some (.type "type")
  ic_RowsError : PySem.W.isClsIn K A.C_RowsError = true
  mg_Unknown : mg "Unknown" = some (.ref A.C_Unknown)
  tp_Unknown : PySem.W.typeIn K (.ref A.C_Unknown) = some (.type "type")
  ic_Unknown : PySem.W.isClsIn K A.C_Unknown = true
  mg_Impossible : mg "Impossible" = some (.ref A.C_Impossible)
  tp_Impossible : PySem.W.typeIn K (.ref A.C_Impossible) = some (.type "type")
  ic_Impossible : PySem.W.isClsIn K A.C_Impossible = true
  mg_BadOrder : mg "BadOrder" = some (.ref A.C_BadOrder)
  tp_BadOrder : PySem.W.typeIn K (.ref A.C_BadOrder) = some (.type "type")
  ic_BadOrder : PySem.W.isClsIn K A.C_BadOrder = true
  mg_BadSpan : mg "BadSpan" = some (.ref A.C_BadSpan)
  tp_BadSpan : PySem.W.typeIn K (.ref A.C_BadSpan) = some (.type "type")
  ic_BadSpan : PySem.W.isClsIn K A.C_BadSpan = true
  mg_BadYears : mg "BadYears" = some (.ref A.C_BadYears)
  tp_BadYears : PySem.W.typeIn K (.ref A.C_BadYears) = some (.type "type")
  ic_BadYears : PySem.W.isClsIn K A.C_BadYears = true
  mg_BrokenSpan : mg "BrokenSpan" = some (.ref A.C_BrokenSpan)
  tp_BrokenSpan : PySem.W.typeIn K (.ref A.C_BrokenSpan) = some (.type "type")
  ic_BrokenSpan : PySem.W.isClsIn K A.C_BrokenSpan = true
  mg_NotLayout : mg "NotLayout" = some (.ref A.C_NotLayout)
  tp_NotLayout : PySem.W.typeIn K (.ref A.C_NotLayout) = some (.type "type")
  ic_NotLayout : PySem.W.isClsIn K A.C_NotLayout = true
  SC_BadOrder : SupCls P K mg A.C_BadOrder
  SF_BadOrder : SupFn P K s_BadOrder_init "BadOrder.__init__" A.C_BadOrder A.a_BadOrder_init A.d_BadOrder_init
  ii_BadOrder : PySem.W.findIn K (.ref A.C_BadOrder) "__init__" = some (some (.ref A.a_BadOrder_init))
  ti_BadOrder : PySem.W.typeIn K (.ref A.a_BadOrder_init) = some (.type "function")
  b_BadOrder_init : Binds K A.d_BadOrder_init ["self", "index"] []
  xn_BadOrder_index : PySem.W.findIn K (.ref A.C_BadOrder) "index" = some none
  xf_BadOrder : XfC K A.C_BadOrder
  ec_BadOrder : ExcC K A.C_BadOrder
  k_BadOrder : PySem.W.keepIn K (.ref A.C_BadOrder) = true
  bp_BadOrder : PySem.W.subIn K (.ref A.C_BadOrder) (.type "BaseException") = some true
  sv_BadOrder : PySem.W.subIn K (.ref A.C_BadOrder) (.type "ValueError") = some true
  ss_BadOrder : PySem.W.subIn K (.ref A.C_BadOrder) (.ref A.C_BadOrder) = some true
  su_BadOrder_RowsError : PySem.W.subIn K (.ref A.C_BadOrder) (.ref A.C_RowsError) = some true
  su_BadOrder_Unknown : PySem.W.subIn K (.ref A.C_BadOrder) (.ref A.C_Unknown) = some false
  su_BadOrder_Impossible : PySem.W.subIn K (.ref A.C_BadOrder) (.ref A.C_Impossible) = some false
  e1_BadOrder : PySem.W.findIn K (.ref A.C_BadOrder) "__getattribute__" = some (some (.builtin "BaseException.__getattribute__"))
  e2_BadOrder : PySem.W.findIn K (.ref A.C_BadOrder) "__getattr__" = some none
  e3_BadOrder : PySem.W.hasDictIn K A.C_BadOrder = true
  e4_BadOrder : PySem.W.findIn K (.ref A.C_BadOrder) "__class__" = some (some (.builtin "object.__class__"))
  e5_BadOrder : PySem.W.mroIn K A.C_BadOrder (.type "object") = some true
  SC_BadSpan : SupCls P K mg A.C_BadSpan
  SF_BadSpan : SupFn P K s_BadSpan_init "BadSpan.__init__" A.C_BadSpan A.a_BadSpan_init A.d_BadSpan_init
  ii_BadSpan : PySem.W.findIn K (.ref A.C_BadSpan) "__init__" = some (some (.ref A.a_BadSpan_init))
  ti_BadSpan : PySem.W.typeIn K (.ref A.a_BadSpan_init) = some (.type "function")
  b_BadSpan_init : Binds K A.d_BadSpan_init ["self", "index"] []
  xn_BadSpan_index : PySem.W.findIn K (.ref A.C_BadSpan) "index" = some none
  xf_BadSpan : XfC K A.C_BadSpan
  ec_BadSpan : ExcC K A.C_BadSpan
  k_BadSpan : PySem.W.keepIn K (.ref A.C_BadSpan) = true
  bp_BadSpan : PySem.W.subIn K (.ref A.C_BadSpan) (.type "BaseException") = some true
  sv_BadSpan : PySem.W.subIn K (.ref A.C_BadSpan) (.type "ValueError") = some true
  ss_BadSpan : PySem.W.subIn K (.ref A.C_BadSpan) (.ref A.C_BadSpan) = some true
  su_BadSpan_RowsError : PySem.W.subIn K (.ref A.C_BadSpan) (.ref A.C_RowsError) = some true
  su_BadSpan_Unknown : PySem.W.subIn K (.ref A.C_BadSpan) (.ref A.C_Unknown) = some false
  su_BadSpan_Impossible : PySem.W.subIn K (.ref A.C_BadSpan) (.ref A.C_Impossible) = some false
  e1_BadSpan : PySem.W.findIn K (.ref A.C_BadSpan) "__getattribute__" = some (some (.builtin "BaseException.__getattribute__"))
  e2_BadSpan : PySem.W.findIn K (.ref A.C_BadSpan) "__getattr__" = some none
  e3_BadSpan : PySem.W.hasDictIn K A.C_BadSpan = true
  e4_BadSpan : PySem.W.findIn K (.ref A.C_BadSpan) "__class__" = some (some (.builtin "object.__class__"))
  e5_BadSpan : PySem.W.mroIn K A.C_BadSpan (.type "object") = some true
  SC_BadYears : SupCls P K mg A.C_BadYears
  SF_BadYears : SupFn P K s_BadYears_init "BadYears.__init__" A.C_BadYears A.a_BadYears_init A.d_BadYears_init
  ii_BadYears : PySem.W.findIn K (.ref A.C_BadYears) "__init__" = some (some (.ref A.a_BadYears_init))
  ti_BadYears : PySem.W.typeIn K (.ref A.a_BadYears_init) = some (.type "function")
  b_BadYears_init : Binds K A.d_BadYears_init ["self", "index"] []
  xn_BadYears_index : PySem.W.findIn K (.ref A.C_BadYears) "index" = some none
  xf_BadYears : XfC K A.C_BadYears
  ec_BadYears : ExcC K A.C_BadYears
  k_BadYears : PySem.W.keepIn K (.ref A.C_BadYears) = true
  bp_BadYears : PySem.W.subIn K (.ref A.C_BadYears) (.type "BaseException") = some true
  sv_BadYears : PySem.W.subIn K (.ref A.C_BadYears) (.type "ValueError") = some true
  ss_BadYears : PySem.W.subIn K (.ref A.C_BadYears) (.ref A.C_BadYears) = some true
  su_BadYears_RowsError : PySem.W.subIn K (.ref A.C_BadYears) (.ref A.C_RowsError) = some true
  su_BadYears_Unknown : PySem.W.subIn K (.ref A.C_BadYears) (.ref A.C_Unknown) = some false
  su_BadYears_Impossible : PySem.W.subIn K (.ref A.C_BadYears) (.ref A.C_Impossible) = some false
  su_BadYears_BadOrder : PySem.W.subIn K (.ref A.C_BadYears) (.ref A.C_BadOrder) = some false
  su_BadYears_NotLayout : PySem.W.subIn K (.ref A.C_BadYears) (.ref A.C_NotLayout) = some false
  e1_BadYears : PySem.W.findIn K (.ref A.C_BadYears) "__getattribute__" = some (some (.builtin "BaseException.__getattribute__"))
  e2_BadYears : PySem.W.findIn K (.ref A.C_BadYears) "__getattr__" = some none
  e3_BadYears : PySem.W.hasDictIn K A.C_BadYears = true
  e4_BadYears : PySem.W.findIn K (.ref A.C_BadYears) "__class__" = some (some (.builtin "object.__class__"))
  e5_BadYears : PySem.W.mroIn K A.C_BadYears (.type "object") = some true
  SC_BrokenSpan : SupCls P K mg A.C_BrokenSpan
  SF_BrokenSpan : SupFn P K s_BrokenSpan_init "BrokenSpan.__init__" A.C_BrokenSpan A.a_BrokenSpan_init A.d_BrokenSpan_init
  ii_BrokenSpan : PySem.W.findIn K (.ref A.C_BrokenSpan) "__init__" = some (some (.ref A.a_BrokenSpan_init))
  ti_BrokenSpan : PySem.W.typeIn K (.ref A.a_BrokenSpan_init) = some (.type "function")
  b_BrokenSpan_init : Binds K A.d_BrokenSpan_init ["self", "index"] []
  xn_BrokenSpan_index : PySem.W.findIn K (.ref A.C_BrokenSpan) "index" = some none
  xf_BrokenSpan : XfC K A.C_BrokenSpan
  ec_BrokenSpan : ExcC K A.C_BrokenSpan
  k_BrokenSpan : PySem.W.keepIn K (.ref A.C_BrokenSpan) = true
  bp_BrokenSpan : PySem.W.subIn K (.ref A.C_BrokenSpan) (.type "BaseException") = some true
  sv_BrokenSpan : PySem.W.subIn K (.ref A.C_BrokenSpan) (.type "ValueError") = some true
  ss_BrokenSpan : PySem.W.subIn K (.ref A.C_BrokenSpan) (.ref A.C_BrokenSpan) = some true
  su_BrokenSpan_RowsError : PySem.W.subIn K (.ref A.C_BrokenSpan) (.ref A.C_RowsError) = some true
  su_BrokenSpan_Unknown : PySem.W.subIn K (.ref A.C_BrokenSpan) (.ref A.C_Unknown) = some false
  su_BrokenSpan_Impossible : PySem.W.subIn K (.ref A.C_BrokenSpan) (.ref A.C_Impossible) = some false
  su_BrokenSpan_BadOrder : PySem.W.subIn K (.ref A.C_BrokenSpan) (.ref A.C_BadOrder) = some false
  su_BrokenSpan_NotLayout : PySem.W.subIn K (.ref A.C_BrokenSpan) (.ref A.C_NotLayout) = some false
  su_BrokenSpan_BadYears : PySem.W.subIn K (.ref A.C_BrokenSpan) (.ref A.C_BadYears) = some false
  e1_BrokenSpan : PySem.W.findIn K (.ref A.C_BrokenSpan) "__getattribute__" = some (some (.builtin "BaseException.__getattribute__"))
  e2_BrokenSpan : PySem.W.findIn K (.ref A.C_BrokenSpan) "__getattr__" = some none
  e3_BrokenSpan : PySem.W.hasDictIn K A.C_BrokenSpan = true
  e4_BrokenSpan : PySem.W.findIn K (.ref A.C_BrokenSpan) "__class__" = some (some (.builtin "object.__class__"))
  e5_BrokenSpan : PySem.W.mroIn K A.C_BrokenSpan (.type "object") = some true
  x_NotLayout : PySem.W.excIn K A.C_NotLayout [.type "ValueError", .type "Exception", .type "BaseException", .type "object"] "ValueError.__new__" = true
  k_NotLayout : PySem.W.keepIn K (.ref A.C_NotLayout) = true
  bp_NotLayout : PySem.W.subIn K (.ref A.C_NotLayout) (.type "BaseException") = some true
  sv_NotLayout : PySem.W.subIn K (.ref A.C_NotLayout) (.type "ValueError") = some true
  ss_NotLayout : PySem.W.subIn K (.ref A.C_NotLayout) (.ref A.C_NotLayout) = some true
  su_NotLayout_RowsError : PySem.W.subIn K (.ref A.C_NotLayout) (.ref A.C_RowsError) = some true
  su_NotLayout_Unknown : PySem.W.subIn K (.ref A.C_NotLayout) (.ref A.C_Unknown) = some false
  su_NotLayout_Impossible : PySem.W.subIn K (.ref A.C_NotLayout) (.ref A.C_Impossible) = some false
  su_NotLayout_BadOrder : PySem.W.subIn K (.ref A.C_NotLayout) (.ref A.C_BadOrder) = some false
  e1_NotLayout : PySem.W.findIn K (.ref A.C_NotLayout) "__getattribute__" = some (some (.builtin "BaseException.__getattribute__"))
  e2_NotLayout : PySem.W.findIn K (.ref A.C_NotLayout) "__getattr__" = some none
  e3_NotLayout : PySem.W.hasDictIn K A.C_NotLayout = true
  e4_NotLayout : PySem.W.findIn K (.ref A.C_NotLayout) "__class__" = some (some (.builtin "object.__class__"))
  e5_NotLayout : PySem.W.mroIn K A.C_NotLayout (.type "object") = some true
  mg_LONGEST_NAME : ∃ t : Tok, mg "LONGEST_NAME" = some (.int 8 t)
  mg_MOST_SPANS : ∃ t : Tok, mg "MOST_SPANS" = some (.int 24 t)
  mg_MOST_YEARS : ∃ t : Tok, mg "MOST_YEARS" = some (.int 1000000 t)
  cr_Table : ClX.CRead K A.C_Table (.type "type")
  cv_Table_MOST_COLUMNS : ∃ u, ClX.CVal K A.C_Table (.type "type") "MOST_COLUMNS" (.int 12) u
  cv_Table_MOST_ROWS : ∃ u, ClX.CVal K A.C_Table (.type "type") "MOST_ROWS" (.int 48) u
  n_abs : mg "abs" = none
  n_int : mg "int" = none
  n_isinstance : mg "isinstance" = none
  n_range : mg "range" = none
  n_len : mg "len" = none
  n_str : mg "str" = none
  n_tuple : mg "tuple" = none
  n_list : mg "list" = none
  n_ValueError : mg "ValueError" = none
  n_all : mg "all" = none
  n_min : mg "min" = none
  n_max : mg "max" = none
  n_enumerate : mg "enumerate" = none
  n_bool : mg "bool" = none
  n_sorted : mg "sorted" = none
  F_is_name : Fun K "is_name" "is_name" s_is_name A.a_is_name A.d_is_name
  b_is_name : Binds K A.d_is_name ["text"] []
  mg_is_name : mg "is_name" = some (.ref A.a_is_name)
  F_first_bad_name : Fun K "first_bad_name" "first_bad_name" s_first_bad_name A.a_first_bad_name A.d_first_bad_name
  b_first_bad_name : Binds K A.d_first_bad_name ["names"] []
  mg_first_bad_name : mg "first_bad_name" = some (.ref A.a_first_bad_name)
  F_first_stray : Fun K "first_stray" "first_stray" s_first_stray A.a_first_stray A.d_first_stray
  b_first_stray : Binds K A.d_first_stray ["columns", "names"] []
  mg_first_stray : mg "first_stray" = some (.ref A.a_first_stray)
  F_order_fault : Fun K "order_fault" "order_fault" s_order_fault A.a_order_fault A.d_order_fault
  b_order_fault : Binds K A.d_order_fault ["columns", "order"] []
  mg_order_fault : mg "order_fault" = some (.ref A.a_order_fault)
  F_count_runs : Fun K "count_runs" "count_runs" s_count_runs A.a_count_runs A.d_count_runs
  b_count_runs : Binds K A.d_count_runs ["flags"] []
  mg_count_runs : mg "count_runs" = some (.ref A.a_count_runs)
  F_runs_of : Fun K "runs_of" "runs_of" s_runs_of A.a_runs_of A.d_runs_of
  b_runs_of : Binds K A.d_runs_of ["row", "order"] []
  mg_runs_of : mg "runs_of" = some (.ref A.a_runs_of)
  F_check_order : Fun K "check_order" "check_order" s_check_order A.a_check_order A.d_check_order
  b_check_order : Binds K A.d_check_order ["table", "order"] []
  mg_check_order : mg "check_order" = some (.ref A.a_check_order)
  F_broken : Fun K "broken" "broken" s_broken A.a_broken A.d_broken
  b_broken : Binds K A.d_broken ["table", "order"] []
  mg_broken : mg "broken" = some (.ref A.a_broken)
  F_is_layout : Fun K "is_layout" "is_layout" s_is_layout A.a_is_layout A.d_is_layout
  b_is_layout : Binds K A.d_is_layout ["table", "order"] []
  mg_is_layout : mg "is_layout" = some (.ref A.a_is_layout)
  F_check_columns : Fun K "check_columns" "check_columns" s_check_columns A.a_check_columns A.d_check_columns
  b_check_columns : Binds K A.d_check_columns ["columns"] []
  mg_check_columns : mg "check_columns" = some (.ref A.a_check_columns)
  F_check_rows : Fun K "_check_rows" "_check_rows" s_check_rows A.a_check_rows A.d_check_rows
  b_check_rows : Binds K A.d_check_rows ["columns", "rows"] []
  mg_check_rows : mg "_check_rows" = some (.ref A.a_check_rows)
  F_Table_in_order : Fun K "_in_order" "Table._in_order" s_Table_in_order A.a_Table_in_order A.d_Table_in_order
  b_Table_in_order : Binds K A.d_Table_in_order ["self", "names"] []
  m_Table_in_order : Meth K A.C_Table "_in_order" A.a_Table_in_order
  F_Table_init : FunD K "__init__" "Table.__init__" (defArgs s_Table_init) (defBody s_Table_init) (defScope s_Table_init) [.ref A.e_Table_init] [] A.a_Table_init A.d_Table_init
  m_Table_init : Meth K A.C_Table "__init__" A.a_Table_init
  F_Table_getitem : Fun K "__getitem__" "Table.__getitem__" s_Table_getitem A.a_Table_getitem A.d_Table_getitem
  b_Table_getitem : Binds K A.d_Table_getitem ["self", "at"] []
  m_Table_getitem : Meth K A.C_Table "__getitem__" A.a_Table_getitem
  F_Table_len : Fun K "__len__" "Table.__len__" s_Table_len A.a_Table_len A.d_Table_len
  b_Table_len : Binds K A.d_Table_len ["self"] []
  m_Table_len : Meth K A.C_Table "__len__" A.a_Table_len
  F_Table_eq : Fun K "__eq__" "Table.__eq__" s_Table_eq A.a_Table_eq A.d_Table_eq
  b_Table_eq : Binds K A.d_Table_eq ["self", "other"] []
  m_Table_eq : Meth K A.C_Table "__eq__" A.a_Table_eq
  F_Spans_init : Fun K "__init__" "Spans.__init__" s_Spans_init A.a_Spans_init A.d_Spans_init
  b_Spans_init : Binds K A.d_Spans_init ["self", "table", "told"] []
  m_Spans_init : Meth K A.C_Spans "__init__" A.a_Spans_init
  F_has_time : Fun K "_has_time" "_has_time" s_has_time A.a_has_time A.d_has_time
  b_has_time : Binds K A.d_has_time ["table", "number"] []
  mg_has_time : mg "_has_time" = some (.ref A.a_has_time)
  F_are_times : Fun K "_are_times" "_are_times" s_are_times A.a_are_times A.d_are_times
  b_are_times : Binds K A.d_are_times ["least", "most"] []
  mg_are_times : mg "_are_times" = some (.ref A.a_are_times)
  F_ends_of : Fun K "ends_of" "ends_of" s_ends_of A.a_ends_of A.d_ends_of
  b_ends_of : Binds K A.d_ends_of ["order", "names"] []
  mg_ends_of : mg "ends_of" = some (.ref A.a_ends_of)
  F_time_of : Fun K "time_of" "time_of" s_time_of A.a_time_of A.d_time_of
  b_time_of : Binds K A.d_time_of ["order", "years", "names"] []
  mg_time_of : mg "time_of" = some (.ref A.a_time_of)
  F_check_years : Fun K "check_years" "check_years" s_check_years A.a_check_years A.d_check_years
  b_check_years : Binds K A.d_check_years ["spans", "order", "years"] []
  mg_check_years : mg "check_years" = some (.ref A.a_check_years)
  F_check_layout : Fun K "_check_layout" "_check_layout" s_check_layout A.a_check_layout A.d_check_layout
  b_check_layout : Binds K A.d_check_layout ["table", "order"] []
  mg_check_layout : mg "_check_layout" = some (.ref A.a_check_layout)
  F_law_cell : Fun K "_law_cell" "_law_cell" s_law_cell A.a_law_cell A.d_law_cell
  b_law_cell : Binds K A.d_law_cell ["script", "k"] []
  mg_law_cell : mg "_law_cell" = some (.ref A.a_law_cell)
  F_law_pool : Fun K "_law_pool" "_law_pool" s_law_pool A.a_law_pool A.d_law_pool
  b_law_pool : Binds K A.d_law_pool ["script", "k", "count"] []
  mg_law_pool : mg "_law_pool" = some (.ref A.a_law_pool)
  F_law_size : Fun K "_law_size" "_law_size" s_law_size A.a_law_size A.d_law_size
  b_law_size : Binds K A.d_law_size ["draw", "most"] []
  mg_law_size : mg "_law_size" = some (.ref A.a_law_size)
  F_law_names : Fun K "_law_names" "_law_names" s_law_names A.a_law_names A.d_law_names
  b_law_names : Binds K A.d_law_names ["count", "seed"] []
  mg_law_names : mg "_law_names" = some (.ref A.a_law_names)
  F_law_order : Fun K "_law_order" "_law_order" s_law_order A.a_law_order A.d_law_order
  b_law_order : Binds K A.d_law_order ["names", "pool", "start"] []
  mg_law_order : mg "_law_order" = some (.ref A.a_law_order)
  F_law_row : Fun K "_law_row" "_law_row" s_law_row A.a_law_row A.d_law_row
  b_law_row : Binds K A.d_law_row ["names", "hidden", "draw", "free"] []
  mg_law_row : mg "_law_row" = some (.ref A.a_law_row)
  F_law_rows : Fun K "_law_rows" "_law_rows" s_law_rows A.a_law_rows A.d_law_rows
  b_law_rows : Binds K A.d_law_rows ["names", "hidden", "pool", "start", "count", "mode"] []
  mg_law_rows : mg "_law_rows" = some (.ref A.a_law_rows)
  F_law_steps : Fun K "_law_steps" "_law_steps" s_law_steps A.a_law_steps A.d_law_steps
  b_law_steps : Binds K A.d_law_steps ["pool", "start", "count"] []
  mg_law_steps : mg "_law_steps" = some (.ref A.a_law_steps)
  F_law_time : Fun K "_law_time" "_law_time" s_law_time A.a_law_time A.d_law_time
  b_law_time : Binds K A.d_law_time ["order", "years", "row"] []
  mg_law_time : mg "_law_time" = some (.ref A.a_law_time)
  F_law_told : Fun K "_law_told" "_law_told" s_law_told A.a_law_told A.d_law_told
  b_law_told : Binds K A.d_law_told ["order", "years", "rows", "pool", "start", "count", "wild"] []
  mg_law_told : mg "_law_told" = some (.ref A.a_law_told)
  F_law_is_number : Fun K "_law_is_number" "_law_is_number" s_law_is_number A.a_law_is_number A.d_law_is_number
  b_law_is_number : Binds K A.d_law_is_number ["value", "least", "most"] []
  mg_law_is_number : mg "_law_is_number" = some (.ref A.a_law_is_number)
  F_law_unbroken : Fun K "_law_unbroken" "_law_unbroken" s_law_unbroken A.a_law_unbroken A.d_law_unbroken
  b_law_unbroken : Binds K A.d_law_unbroken ["order", "row"] []
  mg_law_unbroken : mg "_law_unbroken" = some (.ref A.a_law_unbroken)
  F_law_bad_index : Fun K "_law_bad_index" "_law_bad_index" s_law_bad_index A.a_law_bad_index A.d_law_bad_index
  b_law_bad_index : Binds K A.d_law_bad_index ["names", "order"] []
  mg_law_bad_index : mg "_law_bad_index" = some (.ref A.a_law_bad_index)
  F_law_bad_year : Fun K "_law_bad_year" "_law_bad_year" s_law_bad_year A.a_law_bad_year A.d_law_bad_year
  b_law_bad_year : Binds K A.d_law_bad_year ["order", "years"] []
  mg_law_bad_year : mg "_law_bad_year" = some (.ref A.a_law_bad_year)
  F_law_due : Fun K "_law_due" "_law_due" s_law_due A.a_law_due A.d_law_due
  b_law_due : Binds K A.d_law_due ["names", "rows", "told", "order", "years"] []
  mg_law_due : mg "_law_due" = some (.ref A.a_law_due)
  F_law_checked : Fun K "_law_checked" "_law_checked" s_law_checked A.a_law_checked A.d_law_checked
  b_law_checked : Binds K A.d_law_checked ["spans", "order", "years"] []
  mg_law_checked : mg "_law_checked" = some (.ref A.a_law_checked)
  F_law_refused : Fun K "_law_refused" "_law_refused" s_law_refused A.a_law_refused A.d_law_refused
  b_law_refused : Binds K A.d_law_refused ["table", "told"] []
  mg_law_refused : mg "_law_refused" = some (.ref A.a_law_refused)
  F_law_free_spans : Fun K "_law_free_spans" "_law_free_spans" s_law_free_spans A.a_law_free_spans A.d_law_free_spans
  b_law_free_spans : Binds K A.d_law_free_spans ["rows", "pool", "start", "count"] []
  mg_law_free_spans : mg "_law_free_spans" = some (.ref A.a_law_free_spans)
  F_law_other_years : Fun K "_law_other_years" "_law_other_years" s_law_other_years A.a_law_other_years A.d_law_other_years
  b_law_other_years : Binds K A.d_law_other_years ["years", "pool"] []
  mg_law_other_years : mg "_law_other_years" = some (.ref A.a_law_other_years)
  F_law_other_order : Fun K "_law_other_order" "_law_other_order" s_law_other_order A.a_law_other_order A.d_law_other_order
  b_law_other_order : Binds K A.d_law_other_order ["hidden", "names", "pool"] []
  mg_law_other_order : mg "_law_other_order" = some (.ref A.a_law_other_order)
  F_law_bad_spans : Fun K "_law_bad_spans" "_law_bad_spans" s_law_bad_spans A.a_law_bad_spans A.d_law_bad_spans
  b_law_bad_spans : Binds K A.d_law_bad_spans ["rows", "told", "pool"] []
  mg_law_bad_spans : mg "_law_bad_spans" = some (.ref A.a_law_bad_spans)
  F_law_bounds_right : Fun K "_law_bounds_right" "_law_bounds_right" s_law_bounds_right A.a_law_bounds_right A.d_law_bounds_right
  b_law_bounds_right : Binds K A.d_law_bounds_right ["table", "rows", "told", "pool"] []
  mg_law_bounds_right : mg "_law_bounds_right" = some (.ref A.a_law_bounds_right)
  F_law_many_right : Fun K "_law_many_right" "_law_many_right" s_law_many_right A.a_law_many_right A.d_law_many_right
  b_law_many_right : Binds K A.d_law_many_right ["table", "names", "rows", "told", "lists"] []
  mg_law_many_right : mg "_law_many_right" = some (.ref A.a_law_many_right)
  F_law : Fun K "law" "law" s_law A.a_law A.d_law
  b_law : Binds K A.d_law ["script"] []
  mg_law : mg "law" = some (.ref A.a_law)
end My
set_option maxRecDepth 100000
set_option maxHeartbeats 4000000
set_option exponentiation.threshold 10000
namespace My
open PySem L2
section
variable {P : Program} {w : World} {K : PySem.W.Frag} {mg : Str → Option Value} {base : Heap} {A : Ad}
theorem lp1 : Str.length ("wrong in an order: place " : Str) = 25 := by decide
theorem ok_BadOrder (T : Txt P K mg A) : FnOk P w K mg base CX0 1 A.a_BadOrder_init A.d_BadOrder_init ["self", "index"] (spX1 A.C_BadOrder "index" smallI) := by
  refine sup_ok T.SF_BadOrder ss_BadOrder_init T.SC_BadOrder rfl rfl rfl (fun _ => rfl) (fun _ => rfl) (fun _ => rfl) (fun vs H Q E h => ?_) (fun cda cc A' outer s H vs Q E hr h => ?_)
  · obtain ⟨a, y, rfl, _⟩ := h
    rfl
  · obtain ⟨a, y, rfl, ⟨i, rfl, hi⟩, ha, k⟩ := h
    have l1 := PyProof.Rows.int_text_len_1921 (small_log hi)
    refine ⟨a, _, _, rfl, ha, (pe_joined (PJ.cons pe_str (PJ.cons (pe_fmt (pv 1)) PJ.nil))), (pss_one (ps_ost (pv 0) (pv 1))), ?_⟩
    refine ⟨_, rfl, by rw [Str.empty_append, lp1]; decide, _, rfl, .inr ⟨i, rfl, small_log hi, _, rfl, ?_, (by decide : 1 ≤ 1000), ha, _, rfl, _, rfl, a, _, rfl, T.SC_BadOrder.ox, T.xn_BadOrder_index, .inl ⟨ha, fun d hd hne => k d hd hne⟩⟩⟩
    rw [Str.empty_append, Str.length_append, lp1]
    exact Nat.le_trans (Nat.add_le_add_left l1 25) (by decide)
theorem lp2 : Str.length ("span " : Str) = 5 := by decide
theorem lq2 : Str.length (" is wrong" : Str) = 9 := by decide
theorem ok_BadSpan (T : Txt P K mg A) : FnOk P w K mg base CX0 1 A.a_BadSpan_init A.d_BadSpan_init ["self", "index"] (spX1 A.C_BadSpan "index" smallI) := by
  refine sup_ok T.SF_BadSpan ss_BadSpan_init T.SC_BadSpan rfl rfl rfl (fun _ => rfl) (fun _ => rfl) (fun _ => rfl) (fun vs H Q E h => ?_) (fun cda cc A' outer s H vs Q E hr h => ?_)
  · obtain ⟨a, y, rfl, _⟩ := h
    rfl
  · obtain ⟨a, y, rfl, ⟨i, rfl, hi⟩, ha, k⟩ := h
    have l1 := PyProof.Rows.int_text_len_1921 (small_log hi)
    refine ⟨a, _, _, rfl, ha, (pe_joined (PJ.cons pe_str (PJ.cons (pe_fmt (pv 1)) (PJ.cons pe_str PJ.nil)))), (pss_one (ps_ost (pv 0) (pv 1))), ?_⟩
    refine ⟨_, rfl, by rw [Str.empty_append, lp2]; decide, _, rfl, .inr ⟨i, rfl, small_log hi, _, rfl, ?_, _, rfl, ?_, (by decide : 1 ≤ 1000), ha, _, rfl, _, rfl, a, _, rfl, T.SC_BadSpan.ox, T.xn_BadSpan_index, .inl ⟨ha, fun d hd hne => k d hd hne⟩⟩⟩
    · rw [Str.empty_append, Str.length_append, lp2]
      exact Nat.le_trans (Nat.add_le_add_left l1 5) (by decide)
    · rw [Str.empty_append, Str.length_append, Str.length_append, lp2, lq2]
      exact Nat.le_trans (Nat.add_le_add_right (Nat.add_le_add_left l1 5) 9) (by decide)
theorem lp3 : Str.length ("wrong in a dating: place " : Str) = 25 := by decide
theorem ok_BadYears (T : Txt P K mg A) : FnOk P w K mg base CX0 1 A.a_BadYears_init A.d_BadYears_init ["self", "index"] (spX1 A.C_BadYears "index" smallI) := by
  refine sup_ok T.SF_BadYears ss_BadYears_init T.SC_BadYears rfl rfl rfl (fun _ => rfl) (fun _ => rfl) (fun _ => rfl) (fun vs H Q E h => ?_) (fun cda cc A' outer s H vs Q E hr h => ?_)
  · obtain ⟨a, y, rfl, _⟩ := h
    rfl
  · obtain ⟨a, y, rfl, ⟨i, rfl, hi⟩, ha, k⟩ := h
    have l1 := PyProof.Rows.int_text_len_1921 (small_log hi)
    refine ⟨a, _, _, rfl, ha, (pe_joined (PJ.cons pe_str (PJ.cons (pe_fmt (pv 1)) PJ.nil))), (pss_one (ps_ost (pv 0) (pv 1))), ?_⟩
    refine ⟨_, rfl, by rw [Str.empty_append, lp3]; decide, _, rfl, .inr ⟨i, rfl, small_log hi, _, rfl, ?_, (by decide : 1 ≤ 1000), ha, _, rfl, _, rfl, a, _, rfl, T.SC_BadYears.ox, T.xn_BadYears_index, .inl ⟨ha, fun d hd hne => k d hd hne⟩⟩⟩
    rw [Str.empty_append, Str.length_append, lp3]
    exact Nat.le_trans (Nat.add_le_add_left l1 25) (by decide)
theorem lp4 : Str.length ("span " : Str) = 5 := by decide
theorem lq4 : Str.length (" is not kept" : Str) = 12 := by decide
theorem ok_BrokenSpan (T : Txt P K mg A) : FnOk P w K mg base CX0 1 A.a_BrokenSpan_init A.d_BrokenSpan_init ["self", "index"] (spX1 A.C_BrokenSpan "index" smallI) := by
  refine sup_ok T.SF_BrokenSpan ss_BrokenSpan_init T.SC_BrokenSpan rfl rfl rfl (fun _ => rfl) (fun _ => rfl) (fun _ => rfl) (fun vs H Q E h => ?_) (fun cda cc A' outer s H vs Q E hr h => ?_)
  · obtain ⟨a, y, rfl, _⟩ := h
    rfl
  · obtain ⟨a, y, rfl, ⟨i, rfl, hi⟩, ha, k⟩ := h
    have l1 := PyProof.Rows.int_text_len_1921 (small_log hi)
    refine ⟨a, _, _, rfl, ha, (pe_joined (PJ.cons pe_str (PJ.cons (pe_fmt (pv 1)) (PJ.cons pe_str PJ.nil)))), (pss_one (ps_ost (pv 0) (pv 1))), ?_⟩
    refine ⟨_, rfl, by rw [Str.empty_append, lp4]; decide, _, rfl, .inr ⟨i, rfl, small_log hi, _, rfl, ?_, _, rfl, ?_, (by decide : 1 ≤ 1000), ha, _, rfl, _, rfl, a, _, rfl, T.SC_BrokenSpan.ox, T.xn_BrokenSpan_index, .inl ⟨ha, fun d hd hne => k d hd hne⟩⟩⟩
    · rw [Str.empty_append, Str.length_append, lp4]
      exact Nat.le_trans (Nat.add_le_add_left l1 5) (by decide)
    · rw [Str.empty_append, Str.length_append, Str.length_append, lp4, lq4]
      exact Nat.le_trans (Nat.add_le_add_right (Nat.add_le_add_left l1 5) 12) (by decide)
/-! ### names -/
def spName : Sp := fun vs H Q _ => ∃ z, vs = [.str z] ∧ z.length ≤ 16000000 ∧ ∀ H', Same H H' → Q (.bl (okName z)) H'
theorem ok_name (T : Txt P K mg A) : FnOk P w K mg base CX0 1 A.a_is_name A.d_is_name ["text"] spName := by
  refine T.F_is_name.ok sc_is_name (fun vs H Q E h => ?_) (fun cdv A' outer s H vs Q E hr h => ?_)
  · obtain ⟨z, rfl, _⟩ := h
    rfl
  · obtain ⟨z, rfl, g, k⟩ := h
    refine ⟨_, (pss_one (ps_ret (pe_and (pe_chain op_le op_le pe_int (pe_callB call_len_str (by rfl) T.n_len (by decide +kernel) (pa_cons (pv 0) pa_nil)) (pe_glob (v := .int 8) rfl T.mg_LONGEST_NAME.choose_spec ⟨_, rfl⟩)) (pe_one (pe_callB (cr_all rfl) (by rfl) T.n_all (by decide +kernel) (pa_cons (pe_lc (own := [("sign", 1)]) (g := gName 1) (tt := tYes) rfl sc_is_name.nd (pi_str (pv 0)) (blkOk_by (N := ["text", "sign"]) (sc := defScope s_is_name) (by decide +kernel)) (fun _ _ _ _ _ => (pg_name (i := 1) sc_is_name.nd rfl (Or.inl rfl))) (fun _ _ _ _ _ => pts_nil) (fun _ _ _ _ _ => (pe_chain op_le_str op_le_str pe_str (pv 1) pe_str))) pa_nil)))))), ?_⟩
    have hz : z.length ≤ sizeLine := Nat.le_trans g (by decide)
    refine ⟨_, rfl, z, rfl, hz, _, _, rfl, rfl, _, rfl, ?_⟩
    by_cases h1 : 1 ≤ z.length
    · refine itY (by omega) ⟨_, _, rfl, rfl, _, rfl, ?_⟩
      by_cases h8 : z.length ≤ 8
      · refine itY (by omega) ?_
        refine ⟨_, rfl, z, rfl, fun D hD => lc_it walk_str (PvS H D fun i => (z.cps.toList.take i).map fun c => V.bl (decide (97 ≤ c ∧ c ≤ 122))) (pv0 hD rfl) (fun _ _ _ _ => trivial) ?_ ?_⟩
        · rintro i x H30 H3 hi p ⟨rfl, c, hc, rfl⟩
          have hc' : z.cps.toList[i]? = some c := by rw [Array.getElem?_toList]; exact hc
          have push : ∀ b : Bool, b = decide (97 ≤ c ∧ c ≤ 122) → ∃ acc, H3 D = some (.lst acc) ∧ acc.length < sizeLine ∧ PvS H D (fun i => (z.cps.toList.take i).map fun c => V.bl (decide (97 ≤ c ∧ c ≤ 122))) (i + 1) (upd H3 D (.lst (acc ++ [V.bl b]))) := fun b hb => by
            refine p.push hD ?_ ?_
            · show (z.cps.toList.take (i + 1)).map _ = _
              rw [take_succ hc', List.map_append, hb]; rfl
            · show ((z.cps.toList.take i).map _).length ≤ 1000000
              rw [List.length_map, List.length_take]
              have h2 : z.cps.size = z.length := rfl
              rw [Array.length_toList]; omega
          refine ⟨rfl, ?_⟩
          refine ⟨_, rfl, _, _, rfl, rfl, _, rfl, ?_⟩
          by_cases ha : 97 ≤ c
          · refine ifT (by
              show (!decide ([c] < [97])) = true
              have : ¬ c < 97 := by omega
              simp [List.cons_lt_cons_iff] <;> omega) ⟨_, _, rfl, rfl, push _ ?_⟩
            show (!decide ([122] < [c])) = decide (97 ≤ c ∧ c ≤ 122)
            by_cases hb : c ≤ 122
            · rw [decide_eq_true (⟨ha, hb⟩ : 97 ≤ c ∧ c ≤ 122)]
              simp [List.cons_lt_cons_iff] <;> omega
            · rw [decide_eq_false (fun h : 97 ≤ c ∧ c ≤ 122 => hb h.2)]
              simp [List.cons_lt_cons_iff] <;> omega
          · refine ifF (by
              show (!decide ([c] < [97])) = false
              simp [List.cons_lt_cons_iff] <;> omega) (push _ ?_)
            rw [decide_eq_false (fun h : 97 ≤ c ∧ c ≤ 122 => ha h.1)]
            first | done | (show (!decide ([c] < [97])) = false; simp [List.cons_lt_cons_iff] <;> omega)
        · rintro H3 ⟨sm, h3⟩
          have h3 : H3 D = some (.lst ((z.cps.toList.take z.cps.size).map fun c => V.bl (decide (97 ≤ c ∧ c ≤ 122)))) := h3
          rw [List.take_of_length_le (by rw [Array.length_toList]; exact Nat.le_refl _)] at h3
          refine ⟨D, z.cps.toList.map fun c => decide (97 ≤ c ∧ c ≤ 122), rfl, SqL.of (by rw [List.map_map]; exact h3), ?_⟩
          have e : (z.cps.toList.map fun c => decide (97 ≤ c ∧ c ≤ 122)).all id = okName z := by
            unfold okName
            rw [decide_eq_true h1, decide_eq_true h8, List.all_map]; rfl
          rw [e]
          exact k H3 sm
      · refine itN (by omega) ?_
        have e : okName z = false := by unfold okName; rw [decide_eq_false h8]; simp
        rw [e] at k
        exact k H (Same.refl _)
    · refine itN (by omega) ?_
      have e : okName z = false := by unfold okName; rw [decide_eq_false h1]; rfl
      rw [e] at k
      exact ⟨_, rfl, iteF (k H (Same.refl _))⟩
def spFirstBad (sq : Hp → Addr → List V → Prop) : Sp := fun vs H Q _ => ∃ l ns, vs = [.ref l] ∧ sq H l (sv ns) ∧ (∀ z ∈ ns, z.length ≤ 16000000) ∧ ∀ H', Same H H' → Q (optV (firstBad ns)) H'
theorem ok_firstBad (T : Txt P K mg A) : FnOk P w K mg base CX0 2 A.a_first_bad_name A.d_first_bad_name ["names"] (spFirstBad (SqL K)) := by
  have G_is_name := ok_name (P := P) (w := w) (base := base) T
  refine T.F_first_bad_name.ok sc_first_bad_name (fun vs H Q E h => ?_) (fun cdv A' outer s H vs Q E hr h => ?_)
  · obtain ⟨l, ns, rfl, _⟩ := h
    rfl
  · obtain ⟨l, ns, rfl, hS, g, k⟩ := h
    refine ⟨_, (pss_cons (ps_for PassesOwn.never rfl (pi_enum (by rfl) T.n_enumerate (pa_cons (pv 0) pa_nil)) (pg_tup (by rfl) (pgs_cons (pg_name (i := 1) sc_first_bad_name.nd rfl (Or.inl rfl)) (pgs_cons (pg_name (i := 2) sc_first_bad_name.nd rfl (Or.inl rfl)) pgs_nil)))
        (pss_one (ps_if (PW.pt (pw_or (pt_not (pt_val (pe_call G_is_name (hr.mono (by decide)) rfl T.mg_is_name T.F_is_name.kp T.b_is_name .nil pass0 (pa_cons (pv 2) pa_nil)))) (pw_or1 (pt_cmpR op_in_seq (pv 2) (pe_slice sl_list (pv 0) po_none (po_some (pv 1))) (by with_unfolding_all rfl))))) (pss_one (ps_ret (pv 1))) pss_nil)))
      (pss_one (ps_ret pe_non))), ?_⟩
    refine ⟨_, rfl, l, _, rfl, hS, for_it walk_enum (fun i σ H2 => Same H H2 ∧ (∀ j, j < i → badName ns j = false) ∧ ∃ u1 u2 : Option V, σ = [some (.ref l), u1, u2]) ⟨Same.refl _, fun j hj => absurd hj (Nat.not_lt_zero _), none, none, rfl⟩ (fun i σ H2 _ p => p.1.seq hS) ?_ ?_⟩
    · rintro i x σ H2 H3 hi ⟨sm, hb, u1, u2, rfl⟩ ⟨t, _, _, rfl, ht, rfl, ⟨⟩, hx⟩
      obtain ⟨z, hz, rfl⟩ := sv_get hx
      have hil : i < ns.length := by rw [len_sv] at hi; exact hi
      have bad : badName ns i = (!okName z || decide (z ∈ ns.take i)) := by unfold badName; rw [hz]
      refine ⟨t, _, rfl, SqT.of upd_same, rfl, _, _, rfl, _, _, rfl, rfl, ?_⟩
      refine ⟨_, rfl, z, rfl, g z (List.mem_of_getElem? hz), fun H4 sm4 => ⟨_, rfl, ?_⟩⟩
      have s4 : Same H H4 := sm.trans ((same_new ht).trans sm4)
      cases ok : okName z with
      | false =>
        refine ifT rfl (ifT rfl ⟨_, rfl, ?_⟩)
        have e := firstBad_some hil (by rw [bad, ok]; rfl) hb
        rw [e] at k
        exact k _ s4
      | true =>
        refine ifF rfl ⟨_, rfl, _, rfl, _, rfl, _, rfl, l, _, rfl, s4.seq hS, fun p hp => ⟨p, _, rfl, .inl (SqL.of upd_same), rfl, by rw [cut_take (by omega), sv_take]; exact flat_sv _, _, rfl, ?_⟩⟩
        rw [if_neg Bool.false_ne_true, cut_take (by omega), sv_take, inV_str]
        have s5 := s4.trans (same_new (o := .lst (cutV (sv ns) none (some ((i : Nat) : Int)))) hp)
        rw [cut_take (by omega), sv_take] at s5
        by_cases hp2 : z ∈ ns.take i
        · refine ifT (decide_eq_true hp2) ⟨_, rfl, ?_⟩
          have e := firstBad_some hil (by rw [bad, decide_eq_true hp2, Bool.or_true]) hb
          rw [e] at k
          exact k _ s5
        · refine ifF (decide_eq_false hp2) ⟨s5, fun j hj => ?_, _, _, rfl⟩
          rcases Nat.lt_succ_iff_lt_or_eq.mp hj with q | q
          · exact hb j q
          · rw [q, bad, ok, decide_eq_false hp2]; rfl
    · rintro σ H2 ⟨sm, hb, u1, u2, rfl⟩
      have e := firstBad_none (ns := ns) fun j hj => hb j (by rw [len_sv]; exact hj)
      rw [e] at k
      exact k H2 sm
theorem ok_firstBadT (T : Txt P K mg A) : FnOk P w K mg base CX0 2 A.a_first_bad_name A.d_first_bad_name ["names"] (spFirstBad (SqT K)) := by
  have G_is_name := ok_name (P := P) (w := w) (base := base) T
  refine T.F_first_bad_name.ok sc_first_bad_name (fun vs H Q E h => ?_) (fun cdv A' outer s H vs Q E hr h => ?_)
  · obtain ⟨l, ns, rfl, _⟩ := h
    rfl
  · obtain ⟨l, ns, rfl, hS, g, k⟩ := h
    refine ⟨_, (pss_cons (ps_for PassesOwn.never rfl (pi_enumT (by rfl) T.n_enumerate (pa_cons (pv 0) pa_nil)) (pg_tup (by rfl) (pgs_cons (pg_name (i := 1) sc_first_bad_name.nd rfl (Or.inl rfl)) (pgs_cons (pg_name (i := 2) sc_first_bad_name.nd rfl (Or.inl rfl)) pgs_nil)))
        (pss_one (ps_if (PW.pt (pw_or (pt_not (pt_val (pe_call G_is_name (hr.mono (by decide)) rfl T.mg_is_name T.F_is_name.kp T.b_is_name .nil pass0 (pa_cons (pv 2) pa_nil)))) (pw_or1 (pt_cmpR op_in_seq (pv 2) (pe_slice sl_tupA (pv 0) po_none (po_some (pv 1))) (by with_unfolding_all rfl))))) (pss_one (ps_ret (pv 1))) pss_nil)))
      (pss_one (ps_ret pe_non))), ?_⟩
    refine ⟨_, rfl, l, _, rfl, hS, for_it walk_enumT (fun i σ H2 => Same H H2 ∧ (∀ j, j < i → badName ns j = false) ∧ ∃ u1 u2 : Option V, σ = [some (.ref l), u1, u2]) ⟨Same.refl _, fun j hj => absurd hj (Nat.not_lt_zero _), none, none, rfl⟩ (fun i σ H2 _ p => p.1.tup hS) ?_ ?_⟩
    · rintro i x σ H2 H3 hi ⟨sm, hb, u1, u2, rfl⟩ ⟨t, _, _, rfl, ht, rfl, ⟨⟩, hx⟩
      obtain ⟨z, hz, rfl⟩ := sv_get hx
      have hil : i < ns.length := by rw [len_sv] at hi; exact hi
      have bad : badName ns i = (!okName z || decide (z ∈ ns.take i)) := by unfold badName; rw [hz]
      refine ⟨t, _, rfl, SqT.of upd_same, rfl, _, _, rfl, _, _, rfl, rfl, ?_⟩
      refine ⟨_, rfl, z, rfl, g z (List.mem_of_getElem? hz), fun H4 sm4 => ⟨_, rfl, ?_⟩⟩
      have s4 : Same H H4 := sm.trans ((same_new ht).trans sm4)
      cases ok : okName z with
      | false =>
        refine ifT rfl (ifT rfl ⟨_, rfl, ?_⟩)
        have e := firstBad_some hil (by rw [bad, ok]; rfl) hb
        rw [e] at k
        exact k _ s4
      | true =>
        refine ifF rfl ⟨_, rfl, _, rfl, _, rfl, _, rfl, l, _, rfl, s4.tup hS, fun z => absurd z.2 (by rw [HT.sIx_nat, len_sv]; omega), fun _ p hp => ⟨p, _, rfl, .inr (SqT.of upd_same), rfl, by rw [cut_take (by omega), sv_take]; exact flat_sv _, _, rfl, ?_⟩⟩
        rw [if_neg Bool.false_ne_true, cut_take (by omega), sv_take, inV_str]
        have s5 := s4.trans (same_new (o := .tup (cutV (sv ns) none (some ((i : Nat) : Int)))) hp)
        rw [cut_take (by omega), sv_take] at s5
        by_cases hp2 : z ∈ ns.take i
        · refine ifT (decide_eq_true hp2) ⟨_, rfl, ?_⟩
          have e := firstBad_some hil (by rw [bad, decide_eq_true hp2, Bool.or_true]) hb
          rw [e] at k
          exact k _ s5
        · refine ifF (decide_eq_false hp2) ⟨s5, fun j hj => ?_, _, _, rfl⟩
          rcases Nat.lt_succ_iff_lt_or_eq.mp hj with q | q
          · exact hb j q
          · rw [q, bad, ok, decide_eq_false hp2]; rfl
    · rintro σ H2 ⟨sm, hb, u1, u2, rfl⟩
      have e := firstBad_none (ns := ns) fun j hj => hb j (by rw [len_sv]; exact hj)
      rw [e] at k
      exact k H2 sm
theorem ok_firstBadO (T : Txt P K mg A) : FnOk P w K mg base CX0 2 A.a_first_bad_name A.d_first_bad_name ["names"] (spFirstBad (SqA K)) :=
  (fnok_or (ok_firstBad T) (ok_firstBadT T)).imp fun vs H Q E ⟨l, ns, e, hs, r⟩ => hs.elim (fun h => .inl ⟨l, ns, e, h, r⟩) (fun h => .inr ⟨l, ns, e, h, r⟩)
def spStray (sq1 sq2 : Hp → Addr → List V → Prop) : Sp := fun vs H Q _ => ∃ c l cs ns, vs = [.ref c, .ref l] ∧ sq1 H c (sv cs) ∧ sq2 H l (sv ns) ∧ ns.length ≤ 1000 ∧ ∀ H', Same H H' → Q (optV (stray cs ns)) H'
theorem ok_stray (T : Txt P K mg A) : FnOk P w K mg base CX0 1 A.a_first_stray A.d_first_stray ["columns", "names"] (spStray (SqA K) (SqL K)) := by
  refine T.F_first_stray.ok sc_first_stray (fun vs H Q E h => ?_) (fun cdv A' outer s H vs Q E hr h => ?_)
  · obtain ⟨c, l, cs, ns, rfl, _⟩ := h
    rfl
  · obtain ⟨c, l, cs, ns, rfl, h1, h2, hl, k⟩ := h
    refine ⟨_, (pss_cons (ps_for PassesOwn.never rfl (pi_enum (by rfl) T.n_enumerate (pa_cons (pv 1) pa_nil)) (pg_tup (by rfl) (pgs_cons (pg_name (i := 2) sc_first_stray.nd rfl (Or.inl rfl)) (pgs_cons (pg_name (i := 3) sc_first_stray.nd rfl (Or.inl rfl)) pgs_nil)))
        (pss_one (ps_if (PW.pt (pw_or (pt_cmpR op_notIn_seq (pv 3) (pv 0) (by with_unfolding_all rfl)) (pw_or1 (pt_cmpR op_in_seq (pv 3) (pe_slice sl_list (pv 1) po_none (po_some (pv 2))) (by with_unfolding_all rfl))))) (pss_one (ps_ret (pv 2))) pss_nil)))
      (pss_one (ps_ret pe_non))), ?_⟩
    refine ⟨_, rfl, l, _, rfl, h2, for_it walk_enum (fun i σ H2 => Same H H2 ∧ (∀ j, j < i → badAt cs ns j = false) ∧ ∃ u1 u2 : Option V, σ = [some (.ref c), some (.ref l), u1, u2]) ⟨Same.refl _, fun j hj => absurd hj (Nat.not_lt_zero _), none, none, rfl⟩ (fun i σ H2 _ p => p.1.seq h2) ?_ ?_⟩
    · rintro i x σ H2 H3 hi ⟨sm, hb, u1, u2, rfl⟩ ⟨t, _, _, rfl, ht, rfl, ⟨⟩, hx⟩
      obtain ⟨z, hz, rfl⟩ := sv_get hx
      have hil : i < ns.length := by rw [len_sv] at hi; exact hi
      have bad : badAt cs ns i = (!decide (z ∈ cs) || decide (z ∈ ns.take i)) := by unfold badAt; rw [hz]
      refine ⟨t, _, rfl, SqT.of upd_same, rfl, _, _, rfl, _, _, rfl, rfl, ?_⟩
      have s3 : Same H (upd H2 t (.tup [.int (i : Nat), .str z])) := sm.trans (same_new ht)
      refine ⟨_, rfl, _, rfl, c, _, rfl, s3.sqa h1, rfl, flat_sv _, _, rfl, ?_⟩
      rw [if_pos (rfl : true = true), inV_str]
      by_cases hc : z ∈ cs
      · refine ifF (by rw [decide_eq_true hc]; rfl) ?_
        refine ⟨_, rfl, _, rfl, _, rfl, _, rfl, l, _, rfl, s3.seq h2, fun p hp => ⟨p, _, rfl, .inl (SqL.of upd_same), rfl, by rw [cut_take (by omega), sv_take]; exact flat_sv _, _, rfl, ?_⟩⟩
        rw [if_neg Bool.false_ne_true, cut_take (by omega), sv_take, inV_str]
        have s4 := s3.trans (same_new (o := .lst (cutV (sv ns) none (some ((i : Nat) : Int)))) hp)
        rw [cut_take (by omega), sv_take] at s4
        by_cases hp2 : z ∈ ns.take i
        · refine ifT (decide_eq_true hp2) ⟨_, rfl, ?_⟩
          have e := stray_some (cs := cs) hil (by rw [bad, decide_eq_true hp2, Bool.or_true]) hb
          rw [e] at k
          exact k _ s4
        · refine ifF (decide_eq_false hp2) ⟨s4, fun j hj => ?_, _, _, rfl⟩
          rcases Nat.lt_succ_iff_lt_or_eq.mp hj with q | q
          · exact hb j q
          · rw [q, bad, decide_eq_true hc, decide_eq_false hp2]; rfl
      · refine ifT (by rw [decide_eq_false hc]; rfl) (ifT rfl ⟨_, rfl, ?_⟩)
        have e := stray_some (cs := cs) hil (by rw [bad, decide_eq_false hc]; rfl) hb
        rw [e] at k
        exact k _ s3
    · rintro σ H2 ⟨sm, hb, u1, u2, rfl⟩
      have e := stray_none (cs := cs) (ns := ns) fun j hj => hb j (by rw [len_sv]; exact hj)
      rw [e] at k
      exact k H2 sm
theorem ok_strayT (T : Txt P K mg A) : FnOk P w K mg base CX0 1 A.a_first_stray A.d_first_stray ["columns", "names"] (spStray (SqA K) (SqT K)) := by
  refine T.F_first_stray.ok sc_first_stray (fun vs H Q E h => ?_) (fun cdv A' outer s H vs Q E hr h => ?_)
  · obtain ⟨c, l, cs, ns, rfl, _⟩ := h
    rfl
  · obtain ⟨c, l, cs, ns, rfl, h1, h2, hl, k⟩ := h
    refine ⟨_, (pss_cons (ps_for PassesOwn.never rfl (pi_enumT (by rfl) T.n_enumerate (pa_cons (pv 1) pa_nil)) (pg_tup (by rfl) (pgs_cons (pg_name (i := 2) sc_first_stray.nd rfl (Or.inl rfl)) (pgs_cons (pg_name (i := 3) sc_first_stray.nd rfl (Or.inl rfl)) pgs_nil)))
        (pss_one (ps_if (PW.pt (pw_or (pt_cmpR op_notIn_seq (pv 3) (pv 0) (by with_unfolding_all rfl)) (pw_or1 (pt_cmpR op_in_seq (pv 3) (pe_slice sl_tupA (pv 1) po_none (po_some (pv 2))) (by with_unfolding_all rfl))))) (pss_one (ps_ret (pv 2))) pss_nil)))
      (pss_one (ps_ret pe_non))), ?_⟩
    refine ⟨_, rfl, l, _, rfl, h2, for_it walk_enumT (fun i σ H2 => Same H H2 ∧ (∀ j, j < i → badAt cs ns j = false) ∧ ∃ u1 u2 : Option V, σ = [some (.ref c), some (.ref l), u1, u2]) ⟨Same.refl _, fun j hj => absurd hj (Nat.not_lt_zero _), none, none, rfl⟩ (fun i σ H2 _ p => p.1.tup h2) ?_ ?_⟩
    · rintro i x σ H2 H3 hi ⟨sm, hb, u1, u2, rfl⟩ ⟨t, _, _, rfl, ht, rfl, ⟨⟩, hx⟩
      obtain ⟨z, hz, rfl⟩ := sv_get hx
      have hil : i < ns.length := by rw [len_sv] at hi; exact hi
      have bad : badAt cs ns i = (!decide (z ∈ cs) || decide (z ∈ ns.take i)) := by unfold badAt; rw [hz]
      refine ⟨t, _, rfl, SqT.of upd_same, rfl, _, _, rfl, _, _, rfl, rfl, ?_⟩
      have s3 : Same H (upd H2 t (.tup [.int (i : Nat), .str z])) := sm.trans (same_new ht)
      refine ⟨_, rfl, _, rfl, c, _, rfl, s3.sqa h1, rfl, flat_sv _, _, rfl, ?_⟩
      rw [if_pos (rfl : true = true), inV_str]
      by_cases hc : z ∈ cs
      · refine ifF (by rw [decide_eq_true hc]; rfl) ?_
        refine ⟨_, rfl, _, rfl, _, rfl, _, rfl, l, _, rfl, s3.tup h2, fun z => absurd z.2 (by rw [HT.sIx_nat, len_sv]; omega), fun _ p hp => ⟨p, _, rfl, .inr (SqT.of upd_same), rfl, by rw [cut_take (by omega), sv_take]; exact flat_sv _, _, rfl, ?_⟩⟩
        rw [if_neg Bool.false_ne_true, cut_take (by omega), sv_take, inV_str]
        have s4 := s3.trans (same_new (o := .tup (cutV (sv ns) none (some ((i : Nat) : Int)))) hp)
        rw [cut_take (by omega), sv_take] at s4
        by_cases hp2 : z ∈ ns.take i
        · refine ifT (decide_eq_true hp2) ⟨_, rfl, ?_⟩
          have e := stray_some (cs := cs) hil (by rw [bad, decide_eq_true hp2, Bool.or_true]) hb
          rw [e] at k
          exact k _ s4
        · refine ifF (decide_eq_false hp2) ⟨s4, fun j hj => ?_, _, _, rfl⟩
          rcases Nat.lt_succ_iff_lt_or_eq.mp hj with q | q
          · exact hb j q
          · rw [q, bad, decide_eq_true hc, decide_eq_false hp2]; rfl
      · refine ifT (by rw [decide_eq_false hc]; rfl) (ifT rfl ⟨_, rfl, ?_⟩)
        have e := stray_some (cs := cs) hil (by rw [bad, decide_eq_false hc]; rfl) hb
        rw [e] at k
        exact k _ s3
    · rintro σ H2 ⟨sm, hb, u1, u2, rfl⟩
      have e := stray_none (cs := cs) (ns := ns) fun j hj => hb j (by rw [len_sv]; exact hj)
      rw [e] at k
      exact k H2 sm
theorem ok_strayA (T : Txt P K mg A) : FnOk P w K mg base CX0 1 A.a_first_stray A.d_first_stray ["columns", "names"] (spStray (SqA K) (SqA K)) :=
  (fnok_or (ok_stray T) (ok_strayT T)).imp fun vs H Q E ⟨c, l, cs, ns, e, h1, h2, r⟩ => h2.elim (fun h => .inl ⟨c, l, cs, ns, e, h1, h, r⟩) (fun h => .inr ⟨c, l, cs, ns, e, h1, h, r⟩)
def spFault (K : PySem.W.Frag) (sq2 : Hp → Addr → List V → Prop) : Sp := fun vs H Q _ => ∃ c l cs ns, vs = [.ref c, .ref l] ∧ SqT K H c (sv cs) ∧ sq2 H l (sv ns) ∧ ns.length ≤ 1000 ∧ ∀ H', Same H H' → Q (optV (fault cs ns)) H'
theorem ok_fault (T : Txt P K mg A) : FnOk P w K mg base CX0 2 A.a_order_fault A.d_order_fault ["columns", "order"] (spFault K (SqL K)) := by
  have G_first_stray := ok_stray (P := P) (w := w) (base := base) T
  refine T.F_order_fault.ok sc_order_fault (fun vs H Q E h => ?_) (fun cdv A' outer s H vs Q E hr h => ?_)
  · obtain ⟨c, l, cs, ns, rfl, _⟩ := h
    rfl
  · obtain ⟨c, l, cs, ns, rfl, h1, h2, hl, k⟩ := h
    refine ⟨_, (pss_cons (ps_set (i := 2) sc_order_fault.nd rfl (Or.inl rfl) (pe_call G_first_stray (hr.mono (by decide)) rfl T.mg_first_stray T.F_first_stray.kp T.b_first_stray .nil pass0 (pa_cons (pv 0) (pa_cons (pv 1) pa_nil))))
      (pss_cons (ps_if (PW.pt (pw_and (pt_cmpR op_isN (pv 2) pe_non (nomark _)) (pw_and1 (pt_cmpR op_lt (pe_callB call_len_seq (by rfl) T.n_len (by decide +kernel) (pa_cons (pv 1) pa_nil)) (pe_callB call_len_seq (by rfl) T.n_len (by decide +kernel) (pa_cons (pv 0) pa_nil)) (nomark _))))) (pss_one (ps_ret (pe_callB call_len_seq (by rfl) T.n_len (by decide +kernel) (pa_cons (pv 1) pa_nil)))) pss_nil)
      (pss_one (ps_ret (pv 2))))), ?_⟩
    refine ⟨_, rfl, _, rfl, c, l, cs, ns, rfl, .inr h1, h2, hl, fun H2 sm => ?_⟩
    refine ⟨_, rfl, rfl, _, rfl, ?_⟩
    unfold fault at k
    cases hs : stray cs ns with
    | some i =>
      rw [hs] at k
      refine itN (fun z => nomatch z) (iteF ⟨_, rfl, ?_⟩)
      exact k _ sm
    | none =>
      rw [hs] at k
      refine itY rfl ⟨_, rfl, l, _, rfl, .inl (sm.seq h2), _, rfl, c, _, rfl, .inr (sm.tup h1), _, _, rfl, rfl, _, rfl, ?_⟩
      by_cases hlt : ns.length < cs.length
      · refine itY (by rw [len_sv, len_sv]; omega) ⟨_, rfl, l, _, rfl, .inl (sm.seq h2), ?_⟩
        have k : ∀ H', Same H H' → Q (optV (if ns.length < cs.length then some ns.length else none)) H' := k
        rw [if_pos hlt] at k
        rw [len_sv]
        exact k _ sm
      · refine itN (by rw [len_sv, len_sv]; omega) ⟨_, rfl, ?_⟩
        have k : ∀ H', Same H H' → Q (optV (if ns.length < cs.length then some ns.length else none)) H' := k
        rw [if_neg hlt] at k
        exact k _ sm
theorem ok_faultT (T : Txt P K mg A) : FnOk P w K mg base CX0 2 A.a_order_fault A.d_order_fault ["columns", "order"] (spFault K (SqT K)) := by
  have G_first_strayT := ok_strayT (P := P) (w := w) (base := base) T
  refine T.F_order_fault.ok sc_order_fault (fun vs H Q E h => ?_) (fun cdv A' outer s H vs Q E hr h => ?_)
  · obtain ⟨c, l, cs, ns, rfl, _⟩ := h
    rfl
  · obtain ⟨c, l, cs, ns, rfl, h1, h2, hl, k⟩ := h
    refine ⟨_, (pss_cons (ps_set (i := 2) sc_order_fault.nd rfl (Or.inl rfl) (pe_call G_first_strayT (hr.mono (by decide)) rfl T.mg_first_stray T.F_first_stray.kp T.b_first_stray .nil pass0 (pa_cons (pv 0) (pa_cons (pv 1) pa_nil))))
      (pss_cons (ps_if (PW.pt (pw_and (pt_cmpR op_isN (pv 2) pe_non (nomark _)) (pw_and1 (pt_cmpR op_lt (pe_callB call_len_seq (by rfl) T.n_len (by decide +kernel) (pa_cons (pv 1) pa_nil)) (pe_callB call_len_seq (by rfl) T.n_len (by decide +kernel) (pa_cons (pv 0) pa_nil)) (nomark _))))) (pss_one (ps_ret (pe_callB call_len_seq (by rfl) T.n_len (by decide +kernel) (pa_cons (pv 1) pa_nil)))) pss_nil)
      (pss_one (ps_ret (pv 2))))), ?_⟩
    refine ⟨_, rfl, _, rfl, c, l, cs, ns, rfl, .inr h1, h2, hl, fun H2 sm => ?_⟩
    refine ⟨_, rfl, rfl, _, rfl, ?_⟩
    unfold fault at k
    cases hs : stray cs ns with
    | some i =>
      rw [hs] at k
      refine itN (fun z => nomatch z) (iteF ⟨_, rfl, ?_⟩)
      exact k _ sm
    | none =>
      rw [hs] at k
      refine itY rfl ⟨_, rfl, l, _, rfl, .inr (sm.tup h2), _, rfl, c, _, rfl, .inr (sm.tup h1), _, _, rfl, rfl, _, rfl, ?_⟩
      by_cases hlt : ns.length < cs.length
      · refine itY (by rw [len_sv, len_sv]; omega) ⟨_, rfl, l, _, rfl, .inr (sm.tup h2), ?_⟩
        have k : ∀ H', Same H H' → Q (optV (if ns.length < cs.length then some ns.length else none)) H' := k
        rw [if_pos hlt] at k
        rw [len_sv]
        exact k _ sm
      · refine itN (by rw [len_sv, len_sv]; omega) ⟨_, rfl, ?_⟩
        have k : ∀ H', Same H H' → Q (optV (if ns.length < cs.length then some ns.length else none)) H' := k
        rw [if_neg hlt] at k
        exact k _ sm
def spCount (K : PySem.W.Frag) : Sp := fun vs H Q _ => ∃ l fl, vs = [.ref l] ∧ SqL K H l (fl.map V.bl) ∧ fl.length ≤ 1000 ∧ ∀ H', Same H H' → Q (.int (runs fl : Nat)) H'
theorem ok_count (T : Txt P K mg A) : FnOk P w K mg base CX0 1 A.a_count_runs A.d_count_runs ["flags"] (spCount K) := by
  refine T.F_count_runs.ok sc_count_runs (fun vs H Q E h => ?_) (fun cdv A' outer s H vs Q E hr h => ?_)
  · obtain ⟨l, fl, rfl, _⟩ := h
    rfl
  · obtain ⟨l, fl, rfl, h1, hl, k⟩ := h
    refine ⟨_, (pss_one (ps_ret (pe_callB call_len_seq (by rfl) T.n_len (by decide +kernel) (pa_cons (pe_lc (own := [("at", 1), ("flag", 2)]) (g := gTup K 2 (gCons (gName 1) (gCons (gName 2) gNil))) (tt := _) rfl sc_count_runs.nd (pi_enum (by rfl) T.n_enumerate (pa_cons (pv 0) pa_nil)) (blkOk_by (N := ["flags", "at", "flag"]) (sc := defScope s_count_runs) (by decide +kernel)) (fun _ _ _ _ _ => (pg_tup (by rfl) (pgs_cons (pg_name (i := 1) sc_count_runs.nd rfl (Or.inl rfl)) (pgs_cons (pg_name (i := 2) sc_count_runs.nd rfl (Or.inl rfl)) pgs_nil)))) (fun _ _ _ _ _ => (pts_one (PW.pt (pw_and (pt_val (pv 2)) (pw_and1 (pt_not (PW.pt (pw_and (pt_cmpR op_gt (pv 1) pe_int (nomark _)) (pw_and1 (pt_val (pe_ix (show IxR _ (rIxL K) from ix_list) (pv 0) (pe_op op_sub (pv 1) pe_int) (fun _ _ => rfl)))))))))))) (fun _ _ _ _ _ => (pv 1))) pa_nil)))), ?_⟩
    have stepT : ∀ i, runAt fl i = true → (((List.range (i + 1)).filter (runAt fl)).map fun n => V.int (n : Nat)) = (((List.range i).filter (runAt fl)).map fun n => V.int (n : Nat)) ++ [V.int (i : Nat)] := fun i h => by
      rw [List.range_succ, List.filter_append, List.map_append, List.filter_cons_of_pos h]; rfl
    have stepF : ∀ i, runAt fl i = false → (((List.range (i + 1)).filter (runAt fl)).map fun n => V.int (n : Nat)) = (((List.range i).filter (runAt fl)).map fun n => V.int (n : Nat)) := fun i h => by
      rw [List.range_succ, List.filter_append, List.map_append, List.filter_cons_of_neg (by rw [h]; decide)]; simp
    have lenF : ∀ i, i ≤ fl.length → (((List.range i).filter (runAt fl)).map fun n => V.int (n : Nat)).length ≤ 1000000 := fun i h => by
      have := List.length_filter_le (runAt fl) (List.range i)
      rw [List.length_range] at this
      rw [List.length_map]; omega
    refine ⟨_, rfl, l, _, rfl, h1, fun D hD => lc_it walk_enum (PvS H D fun i => ((List.range i).filter (runAt fl)).map fun n => V.int (n : Nat)) (pv0 hD rfl) (fun i H2 _ p => p.1.seq h1) ?_ ?_⟩
    · rintro i x H3 H4 hi p ⟨t, _, _, rfl, ht, rfl, ⟨⟩, hx⟩
      have hil : i < fl.length := by rw [List.length_map] at hi; exact hi
      have hb : fl[i]? = some fl[i] := List.getElem?_eq_getElem hil
      have hd : fl.getD i false = fl[i] := by rw [List.getD_eq_getElem?_getD, hb]; rfl
      have hx : (fl.map V.bl)[i]? = some _ := hx
      rw [List.getElem?_map, hb] at hx
      cases hx
      generalize fl[i] = b at hb hd
      have p' := p.more (same_new (o := .tup [.int (i : Nat), .bl b]) ht)
      refine ⟨t, _, rfl, SqT.of upd_same, rfl, _, _, rfl, _, _, rfl, rfl, rfl, ?_⟩
      cases b with
      | false =>
        refine ⟨_, rfl, _, rfl, iteF (iteF (p'.skip (stepF i ?_)))⟩
        unfold runAt; rw [hd]; rfl
      | true =>
        refine ⟨_, rfl, _, rfl, iteT ⟨_, rfl, _, _, rfl, rfl, _, rfl, ?_⟩⟩
        by_cases h0 : 0 < i
        · refine itY (by omega) ?_
          have hp1 : i - 1 < fl.length := by omega
          have e1 : fl.getD (i - 1) false = fl[i - 1] := by rw [List.getD_eq_getElem?_getD, List.getElem?_eq_getElem hp1]; rfl
          have at1 : atI (fl.map V.bl) ((i : Int) - 1) = some (V.bl fl[i - 1]) := by
            have := atI_nat (xs := fl.map V.bl) (j := i - 1) (v := V.bl fl[i - 1]) (by rw [List.getElem?_map, List.getElem?_eq_getElem hp1]; rfl)
            rw [show (((i - 1 : Nat) : Int)) = (i : Int) - 1 by omega] at this
            exact this
          refine ⟨_, rfl, _, rfl, _, _, rfl, rfl, l, _, _, _, rfl, rfl, p'.1.seq h1, at1, _, rfl, ?_⟩
          generalize fl[i - 1] = b' at e1
          cases b' with
          | false =>
            refine iteT ⟨_, rfl, p'.push hD (stepT i ?_) (lenF i (by omega))⟩
            unfold runAt; rw [hd, e1]; simp
          | true =>
            refine iteF (p'.skip (stepF i ?_))
            unfold runAt; rw [hd, e1, decide_eq_true h0]; rfl
        · refine itN (by omega) (iteT ⟨_, rfl, p'.push hD (stepT i ?_) (lenF i (by omega))⟩)
          unfold runAt; rw [hd, decide_eq_false h0]; rfl
    · rintro H3 ⟨sm, h3⟩
      refine ⟨D, _, rfl, .inl (SqL.of h3), ?_⟩
      rw [List.length_map, List.length_map]
      exact k H3 sm
def spRuns (K : PySem.W.Frag) (sq2 : Hp → Addr → List V → Prop) : Sp := fun vs H Q _ => ∃ r l rs ns, vs = [.ref r, .ref l] ∧ SqA K H r (sv rs) ∧ sq2 H l (sv ns) ∧ ns.length ≤ 1000 ∧ ∀ H', Same H H' → Q (.int (runs (flags ns rs) : Nat)) H'
theorem ok_runs (T : Txt P K mg A) : FnOk P w K mg base CX0 2 A.a_runs_of A.d_runs_of ["row", "order"] (spRuns K (SqL K)) := by
  have G_count_runs := ok_count (P := P) (w := w) (base := base) T
  refine T.F_runs_of.ok sc_runs_of (fun vs H Q E h => ?_) (fun cdv A' outer s H vs Q E hr h => ?_)
  · obtain ⟨r, l, rs, ns, rfl, _⟩ := h
    rfl
  · obtain ⟨r, l, rs, ns, rfl, h1, h2, hl, k⟩ := h
    refine ⟨_, (pss_one (ps_ret (pe_call G_count_runs (hr.mono (by decide)) rfl T.mg_count_runs T.F_count_runs.kp T.b_count_runs .nil pass0 (pa_cons (pe_lc (own := [("name", 2)]) (g := gName 2) (tt := tYes) rfl sc_runs_of.nd (pi_list (pv 1)) (blkOk_by (N := ["row", "order", "name"]) (sc := defScope s_runs_of) (by decide +kernel)) (fun _ _ _ _ _ => (pg_name (i := 2) sc_runs_of.nd rfl (Or.inl rfl))) (fun _ _ _ _ _ => pts_nil) (fun _ _ _ _ _ => (pe_cmpR (show OpR _ _ (rIn K false) from op_in_seq) (pv 2) (pv 0) (by with_unfolding_all rfl)))) pa_nil)))), ?_⟩
    refine ⟨_, rfl, l, rfl, ⟨_, h2⟩, fun D hD => lc_it walk_list (PvS H D fun i => ((flags ns rs).take i).map V.bl) (pv0 hD rfl) (fun i H2 _ p => p.1.seq h2) ?_ ?_⟩
    · rintro i x H3 H4 hi p ⟨rfl, hx⟩
      obtain ⟨z, hz, rfl⟩ := sv_get hx
      refine ⟨rfl, _, rfl, _, rfl, r, _, rfl, p.1.sqa h1, rfl, flat_sv _, p.push hD ?_ ?_⟩
      · rw [if_neg Bool.false_ne_true, inV_str]
        have hf : (flags ns rs)[i]? = some (decide (z ∈ rs)) := by unfold flags; rw [List.getElem?_map, hz]; rfl
        show ((flags ns rs).take (i + 1)).map V.bl = _
        rw [take_succ hf, List.map_append]; rfl
      · show (((flags ns rs).take i).map V.bl).length ≤ 1000000
        rw [List.length_map, List.length_take]
        rw [len_sv] at hi
        omega
    · rintro H3 ⟨sm, h3⟩
      have hfl : (flags ns rs).length = (sv ns).length := by unfold flags; rw [List.length_map, len_sv]
      have h3 : H3 D = some (.lst (((flags ns rs).take (sv ns).length).map V.bl)) := h3
      rw [← hfl, List.take_length] at h3
      refine ⟨D, flags ns rs, rfl, SqL.of h3, by rw [hfl, len_sv]; exact hl, fun H' sm' => k H' (sm.trans sm')⟩
theorem ok_runsT (T : Txt P K mg A) : FnOk P w K mg base CX0 2 A.a_runs_of A.d_runs_of ["row", "order"] (spRuns K (SqT K)) := by
  have G_count_runs := ok_count (P := P) (w := w) (base := base) T
  refine T.F_runs_of.ok sc_runs_of (fun vs H Q E h => ?_) (fun cdv A' outer s H vs Q E hr h => ?_)
  · obtain ⟨r, l, rs, ns, rfl, _⟩ := h
    rfl
  · obtain ⟨r, l, rs, ns, rfl, h1, h2, hl, k⟩ := h
    refine ⟨_, (pss_one (ps_ret (pe_call G_count_runs (hr.mono (by decide)) rfl T.mg_count_runs T.F_count_runs.kp T.b_count_runs .nil pass0 (pa_cons (pe_lc (own := [("name", 2)]) (g := gName 2) (tt := tYes) rfl sc_runs_of.nd (pi_tup (pv 1)) (blkOk_by (N := ["row", "order", "name"]) (sc := defScope s_runs_of) (by decide +kernel)) (fun _ _ _ _ _ => (pg_name (i := 2) sc_runs_of.nd rfl (Or.inl rfl))) (fun _ _ _ _ _ => pts_nil) (fun _ _ _ _ _ => (pe_cmpR (show OpR _ _ (rIn K false) from op_in_seq) (pv 2) (pv 0) (by with_unfolding_all rfl)))) pa_nil)))), ?_⟩
    refine ⟨_, rfl, l, rfl, ⟨_, h2⟩, fun D hD => lc_it walk_tup (PvS H D fun i => ((flags ns rs).take i).map V.bl) (pv0 hD rfl) (fun i H2 _ p => p.1.tup h2) ?_ ?_⟩
    · rintro i x H3 H4 hi p ⟨rfl, hx⟩
      obtain ⟨z, hz, rfl⟩ := sv_get hx
      refine ⟨rfl, _, rfl, _, rfl, r, _, rfl, p.1.sqa h1, rfl, flat_sv _, p.push hD ?_ ?_⟩
      · rw [if_neg Bool.false_ne_true, inV_str]
        have hf : (flags ns rs)[i]? = some (decide (z ∈ rs)) := by unfold flags; rw [List.getElem?_map, hz]; rfl
        show ((flags ns rs).take (i + 1)).map V.bl = _
        rw [take_succ hf, List.map_append]; rfl
      · show (((flags ns rs).take i).map V.bl).length ≤ 1000000
        rw [List.length_map, List.length_take]
        rw [len_sv] at hi
        omega
    · rintro H3 ⟨sm, h3⟩
      have hfl : (flags ns rs).length = (sv ns).length := by unfold flags; rw [List.length_map, len_sv]
      have h3 : H3 D = some (.lst (((flags ns rs).take (sv ns).length).map V.bl)) := h3
      rw [← hfl, List.take_length] at h3
      refine ⟨D, flags ns rs, rfl, SqL.of h3, by rw [hfl, len_sv]; exact hl, fun H' sm' => k H' (sm.trans sm')⟩
end
end My
set_option maxRecDepth 100000
set_option maxHeartbeats 4000000
set_option exponentiation.threshold 10000
namespace My
open PySem L2
/-- at ts stand the lists or tuples of texts rs -/
structure LsA (K : PySem.W.Frag) (H : Hp) (ts : List Addr) (rs : List (List Str)) : Prop where
  len : ts.length = rs.length
  at_ : ∀ (i : Nat) (t : Addr) (r : List Str), ts[i]? = some t → rs[i]? = some r → SqA K H t (sv r)
theorem LsA.same {K : PySem.W.Frag} {H H' : Hp} {ts : List Addr} {rs : List (List Str)} (h : LsA K H ts rs) (e : Same H H') : LsA K H' ts rs := ⟨h.len, fun i t x a b => e.sqa (h.at_ i t x a b)⟩
theorem LsA.get {K : PySem.W.Frag} {H : Hp} {ts : List Addr} {rs : List (List Str)} (h : LsA K H ts rs) {i : Nat} {t : Addr} (hi : ts[i]? = some t) : ∃ r, rs[i]? = some r ∧ SqA K H t (sv r) := by
  have hx : i < rs.length := by rw [← h.len]; exact (List.getElem?_eq_some_iff.mp hi).1
  exact ⟨rs[i], List.getElem?_eq_getElem hx, h.at_ i _ _ hi (List.getElem?_eq_getElem hx)⟩
theorem Lss.lsa {K : PySem.W.Frag} {H : Hp} {ts : List Addr} {rs : List (List Str)} (h : Lss .lst H ts rs) : LsA K H ts rs := ⟨h.len, fun i t r a b => .inl (SqL.of (h.at_ i t r a b))⟩
theorem Lss.lsaT {K : PySem.W.Frag} {H : Hp} {ts : List Addr} {rs : List (List Str)} (h : Lss .tup H ts rs) : LsA K H ts rs := ⟨h.len, fun i t r a b => .inr (SqT.of (h.at_ i t r a b))⟩
theorem sqa_upd {K : PySem.W.Frag} {H : Hp} {a b C dx : Addr} {xs : List V} {f g : List (Str × V)} (h : SqA K H a xs) (hb : H b = some (.ins C dx f)) : SqA K (upd H b (.ins C dx g)) a xs := by
  rcases h with h | h
  · exact .inl (seq_upd h hb (fun ys z => nomatch z) (fun c d z => nomatch z))
  · refine .inr ?_
    rcases h with (r | ⟨c, r⟩) | z
    · exact .inl (.inl (by rw [upd_ne (ne_of r hb (fun z => nomatch z))]; exact r))
    · exact .inl (.inr ⟨c, by rw [upd_ne (ne_of r hb (fun z => nomatch z))]; exact r⟩)
    · exact .inr z
section
variable {P : Program} {w : World} {K : PySem.W.Frag} {mg : Str → Option Value} {base : Heap} {A : Ad}
theorem Txt.bi (T : Txt P K mg A) : Binds K A.d_Table_init ["self", "columns", "rows"] [] := by
  obtain ⟨ds, hv, hb⟩ := T.F_Table_init.binds1 (ps := ["self", "columns", "rows"]) 3 1 (by simp) rfl (fun T kV dc pm an cd ct us its hl hi => by
    match us, hl, its, hi with
    | [_, _, _], _, [_], _ => exact ⟨_, rfl, rfl⟩)
  cases hv
  exact hb
def spCols (K : PySem.W.Frag) : Sp := fun vs H Q _ => ∃ l cs, vs = [.ref l] ∧ SqA K H l (sv cs) ∧ (∀ z ∈ cs, Good z) ∧ cs.Nodup ∧ cs.length ≤ 12 ∧ ∀ H', Same H H' → Q .non H'
theorem ok_cols (T : Txt P K mg A) : FnOk P w K mg base CX0 3 A.a_check_columns A.d_check_columns ["columns"] (spCols K) := by
  have G_first_bad_name := ok_firstBadO (P := P) (w := w) (base := base) T
  refine T.F_check_columns.ok sc_check_columns (fun vs H Q E h => ?_) (fun cdv A' outer s H vs Q E hr h => ?_)
  · obtain ⟨l, cs, rfl, _⟩ := h
    rfl
  · obtain ⟨l, cs, rfl, h1, g, nd, hl, k⟩ := h
    refine ⟨_, (pss_cons (ps_if (pt_cmpR op_gt (pe_callB call_len_seq (by rfl) T.n_len (by decide +kernel) (pa_cons (pv 0) pa_nil)) (ClX.pe_cval (pe_glob (v := .ref A.C_Table) rfl T.mg_Table rfl)) (nomark _)) (pss_one ps_never) pss_nil)
      (pss_cons (ps_set (i := 1) sc_check_columns.nd rfl (Or.inl rfl) (pe_call G_first_bad_name (hr.mono (by decide)) rfl T.mg_first_bad_name T.F_first_bad_name.kp T.b_first_bad_name .nil pass0 (pa_cons (pv 0) pa_nil)))
      (pss_one (ps_if (pt_cmpR op_notN (pv 1) pe_non (nomark _)) (pss_one ps_never) pss_nil)))), ?_⟩
    obtain ⟨u, hu⟩ := T.cv_Table_MOST_COLUMNS
    refine ⟨_, rfl, l, _, rfl, h1, _, _, _, _, rfl, T.cr_Table, hu, _, _, rfl, rfl, _, rfl, itN (by rw [len_sv]; omega) ?_⟩
    exact ⟨_, rfl, l, cs, rfl, h1, (fun z hz => Nat.le_trans (g z hz).le (by decide)), fun H2 sm => by
      rw [firstBad_none_iff.mpr ⟨g, nd⟩]
      exact ⟨_, rfl, rfl, _, rfl, itNe rfl (k _ sm)⟩⟩
def spChRows (K : PySem.W.Frag) : Sp := fun vs H Q _ => ∃ l r cs ts rs, vs = [.ref l, .ref r] ∧ SqA K H l (sv cs) ∧ SqL K H r (ts.map V.ref) ∧ LsA K H ts rs ∧ rs.length ≤ 48 ∧ (∀ x ∈ rs, stray cs x = none ∧ x.length ≤ 1000) ∧ ∀ H', Same H H' → Q .non H'
theorem ok_chRows (T : Txt P K mg A) : FnOk P w K mg base CX0 2 A.a_check_rows A.d_check_rows ["columns", "rows"] (spChRows K) := by
  have G_first_stray := ok_strayA (P := P) (w := w) (base := base) T
  refine T.F_check_rows.ok sc_check_rows (fun vs H Q E h => ?_) (fun cdv A' outer s H vs Q E hr h => ?_)
  · obtain ⟨l, r, cs, ts, rs, rfl, _⟩ := h
    rfl
  · obtain ⟨l, r, cs, ts, rs, rfl, h1, h2, hs, hl, hg, k⟩ := h
    refine ⟨_, (pss_cons (ps_if (pt_cmpR op_gt (pe_callB call_len_seq (by rfl) T.n_len (by decide +kernel) (pa_cons (pv 1) pa_nil)) (ClX.pe_cval (pe_glob (v := .ref A.C_Table) rfl T.mg_Table rfl)) (nomark _)) (pss_one ps_never) pss_nil)
      (pss_one (ps_for PassesOwn.never rfl (pi_enum (by rfl) T.n_enumerate (pa_cons (pv 1) pa_nil)) (pg_tup (by rfl) (pgs_cons (pg_name (i := 2) sc_check_rows.nd rfl (Or.inl rfl)) (pgs_cons (pg_name (i := 3) sc_check_rows.nd rfl (Or.inl rfl)) pgs_nil)))
        (pss_one (ps_if (pt_cmpR op_notN (pe_call G_first_stray (hr.mono (by decide)) rfl T.mg_first_stray T.F_first_stray.kp T.b_first_stray .nil pass0 (pa_cons (pv 0) (pa_cons (pv 3) pa_nil))) pe_non (nomark _)) (pss_one ps_never) pss_nil))))), ?_⟩
    obtain ⟨u, hu⟩ := T.cv_Table_MOST_ROWS
    refine ⟨_, rfl, r, _, rfl, .inl h2, _, _, _, _, rfl, T.cr_Table, hu, _, _, rfl, rfl, _, rfl, itN (by rw [List.length_map, hs.len]; omega) ?_⟩
    refine ⟨_, rfl, r, _, rfl, h2, for_it walk_enum (fun i σ H2 => Same H H2 ∧ ∃ u1 u2 : Option V, σ = [some (.ref l), some (.ref r), u1, u2]) ⟨Same.refl _, none, none, rfl⟩ (fun i σ H2 _ p => p.1.seq h2) ?_ ?_⟩
    · rintro i x σ H2 H3 hi ⟨sm, u1, u2, rfl⟩ ⟨t, _, _, rfl, ht, rfl, ⟨⟩, hx⟩
      obtain ⟨b, hb, rfl⟩ := refs_get hx
      obtain ⟨y, hy, ho⟩ := hs.get hb
      have g := hg y (List.mem_of_getElem? hy)
      have s3 : Same H (upd H2 t (.tup [.int (i : Nat), .ref b])) := sm.trans (same_new ht)
      refine ⟨t, _, rfl, SqT.of upd_same, rfl, _, _, rfl, _, _, rfl, rfl, ?_⟩
      refine ⟨_, rfl, _, rfl, l, b, cs, y, rfl, s3.sqa h1, s3.sqa ho, g.2, fun H4 sm4 => ?_⟩
      rw [g.1]
      exact ⟨rfl, _, rfl, itNe rfl ⟨s3.trans sm4, _, _, rfl⟩⟩
    · rintro σ H2 ⟨sm, u1, u2, rfl⟩
      exact k H2 sm
def spInOrder (C : Addr) (K : PySem.W.Frag) : Sp := fun vs H Q _ => ∃ p l dx ct cs r fs, vs = [.ref p, .ref l] ∧ H p = some (.ins C dx fs) ∧ fs.lookup ("columns" : Str) = some (.ref ct) ∧ H ct = some (.tup (sv cs)) ∧ SqA K H l (sv r) ∧ cs.length ≤ 1000 ∧
  ∀ t H', Same H H' → H' t = some (.tup (sv (canon cs r))) → Q (.ref t) H'
theorem ok_inOrder (T : Txt P K mg A) : FnOk P w K mg base CX0 1 A.a_Table_in_order A.d_Table_in_order ["self", "names"] (spInOrder A.C_Table K) := by
  refine T.F_Table_in_order.ok sc_Table_in_order (fun vs H Q E h => ?_) (fun cdv A' outer s H vs Q E hr h => ?_)
  · obtain ⟨p, l, dx, ct, cs, r, fs, rfl, _⟩ := h
    rfl
  · obtain ⟨p, l, dx, ct, cs, r, fs, rfl, h1, hct, hc, h2, hl, k⟩ := h
    refine ⟨_, (pss_one (ps_ret (pe_callTy (show CallR _ _ (rTupOf K) from call_tuple_of) (by rfl) T.n_tuple (by decide +kernel) (pa_cons (pe_lc (own := [("name", 2)]) (g := gName 2) (tt := _) rfl sc_Table_in_order.nd (pi_tup (pe_fld (pv 0) rfl)) (blkOk_by (N := ["self", "names", "name"]) (sc := defScope s_Table_in_order) (by decide +kernel)) (fun _ _ _ _ _ => (pg_name (i := 2) sc_Table_in_order.nd rfl (Or.inl rfl))) (fun _ _ _ _ _ => (pts_one (pt_cmpR (show OpR _ _ (rIn K false) from op_in_seq) (pv 2) (pv 1) (by with_unfolding_all rfl)))) (fun _ _ _ _ _ => (pv 2))) pa_nil)))), ?_⟩
    have stepT : ∀ i z, cs[i]? = some z → z ∈ r → sv (canon (cs.take (i + 1)) r) = sv (canon (cs.take i) r) ++ [V.str z] := fun i z hz hm => by
      rw [take_succ hz, canon_T hm]; exact List.map_append
    have stepF : ∀ i z, cs[i]? = some z → z ∉ r → sv (canon (cs.take (i + 1)) r) = sv (canon (cs.take i) r) := fun i z hz hm => by
      rw [take_succ hz, canon_F hm]
    refine ⟨_, rfl, p, _, dx, fs, _, rfl, h1, T.cl_Table, T.n_Table_columns, hct, ct, rfl, ⟨_, SqT.of hc⟩, fun D hD => lc_it walk_tup (PvS H D fun i => sv (canon (cs.take i) r)) (pv0 hD rfl) (fun i H2 _ q => q.1.tup (SqT.of hc)) ?_ ?_⟩
    · rintro i x H3 H4 hi q ⟨rfl, hx⟩
      obtain ⟨z, hz, rfl⟩ := sv_get hx
      refine ⟨rfl, _, rfl, _, rfl, l, _, rfl, q.1.sqa h2, rfl, flat_sv _, _, rfl, ?_⟩
      rw [if_neg Bool.false_ne_true, inV_str]
      have hlen : (sv (canon (cs.take i) r)).length ≤ 1000000 := by
        have := List.length_filter_le (fun x => decide (x ∈ r)) (cs.take i)
        rw [List.length_take] at this
        rw [len_sv]; unfold canon; omega
      by_cases hm : z ∈ r
      · exact ifT (decide_eq_true hm) ⟨_, rfl, q.push hD (stepT i z hz hm) hlen⟩
      · exact ifF (decide_eq_false hm) (q.skip (stepF i z hz hm))
    · rintro H3 ⟨sm, h3⟩
      have h3 : H3 D = some (.lst (sv (canon (cs.take (sv cs).length) r))) := h3
      rw [len_sv, List.take_length] at h3
      exact ⟨D, _, rfl, .inl ⟨SqL.of h3, fun t ht => k t _ (sm.trans (same_new ht)) upd_same⟩⟩
def spTable (C : Addr) (K : PySem.W.Frag) : Sp := fun vs H Q _ => ∃ p l r dx cs ts rs, vs = [.ref p, .ref l, .ref r] ∧ H p = some (.ins C dx []) ∧ (SqL K H l (sv cs) ∨ H l = some (.tup (sv cs))) ∧ SqL K H r (ts.map V.ref) ∧ LsA K H ts rs ∧
  (∀ z ∈ cs, Good z) ∧ cs.Nodup ∧ cs.length ≤ 12 ∧ rs.length ≤ 48 ∧ (∀ x ∈ rs, stray cs x = none ∧ x.length ≤ 1000) ∧ ∀ H', (∀ b o, b ≠ p → H b = some o → H' b = some o) → Tb C H' p cs rs → Q .non H'
theorem ok_table (T : Txt P K mg A) : FnOk P w K mg base CX0 4 A.a_Table_init A.d_Table_init ["self", "columns", "rows"] (spTable A.C_Table K) := by
  have G_check_columns := ok_cols (P := P) (w := w) (base := base) T
  have G_check_rows := ok_chRows (P := P) (w := w) (base := base) T
  have G_Table_in_order := ok_inOrder (P := P) (w := w) (base := base) T
  refine T.F_Table_init.ok sc_Table_init (fun vs H Q E h => ?_) (fun cdv A' outer s H vs Q E hr h => ?_)
  · obtain ⟨p, l, r, dx, cs, ts, rs, rfl, _⟩ := h
    rfl
  · obtain ⟨p, l, r, dx, cs, ts, rs, rfl, hp, h1, h2, hs, g, nd, hc, hrs, hst, k⟩ := h
    refine ⟨_, (pss_cons (ps_expr (pe_call G_check_columns (hr.mono (by decide)) rfl T.mg_check_columns T.F_check_columns.kp T.b_check_columns .nil pass0 (pa_cons (pv 1) pa_nil)))
      (pss_cons (ps_expr (pe_call G_check_rows (hr.mono (by decide)) rfl T.mg_check_rows T.F_check_rows.kp T.b_check_rows .nil pass0 (pa_cons (pv 1) (pa_cons (pv 2) pa_nil))))
      (pss_cons (ps_fld (pv 0) (pe_callTy (show CallR _ _ (rTupOf K) from call_tuple_of) (by rfl) T.n_tuple (by decide +kernel) (pa_cons (pv 1) pa_nil)) rfl)
      (pss_one (ps_fld (pv 0) (pe_callTy (show CallR _ _ (rTupOf K) from call_tuple_of) (by rfl) T.n_tuple (by decide +kernel) (pa_cons (pe_lc (own := [("row", 3)]) (g := gName 3) (tt := tYes) rfl sc_Table_init.nd (pi_list (pv 2)) (blkOk_by (N := ["self", "columns", "rows", "row"]) (sc := defScope s_Table_init) (by decide +kernel)) (fun _ _ _ _ _ => (pg_name (i := 3) sc_Table_init.nd rfl (Or.inl rfl))) (fun _ _ _ _ _ => pts_nil) (fun _ _ _ _ _ => (pe_meth (pv 0) T.cl_Table T.m_Table_in_order G_Table_in_order (hr.mono (by decide)) T.b_Table_in_order .nil pass0 (pa_cons (pv 3) pa_nil)))) pa_nil)) rfl))))), ?_⟩
    have h1a : SqA K H l (sv cs) := h1.imp id SqT.of
    refine ⟨_, rfl, l, cs, rfl, h1a, g, nd, hc, fun H1 s1 => ?_⟩
    refine ⟨_, rfl, _, rfl, l, r, cs, ts, rs, rfl, s1.sqa h1a, s1.seq h2, hs.same s1, hrs, hst, fun H2 s2 => ?_⟩
    have s2 := s1.trans s2
    refine ⟨_, rfl, l, sv cs, rfl, ?_⟩
    have hpS := s2 _ _ hp
    have fin : ∀ (ct : Addr) (H2' : Hp), Same H H2' → H2' ct = some (.tup (sv cs)) → ct ≠ p → H2' p = some (.ins A.C_Table dx []) ∧ H2' ct = some (.tup (sv cs)) ∧ ct ≠ p ∧ Same H H2' := fun ct H2' s h n => ⟨s _ _ hp, h, n, s⟩
    rcases h1 with h1 | h1
    · refine .inl ⟨s2.seq h1, fun ct hct => ?_⟩
      have npc : ct ≠ p := fun z => by rw [z] at hct; rw [hpS] at hct; cases hct
      have F := fin ct (upd H2 ct (.tup (sv cs))) (s2.trans (same_new hct)) upd_same npc
      generalize upd H2 ct (.tup (sv cs)) = H2' at F ⊢
      clear hct npc
      obtain ⟨hp2, hc2, npc, s2'⟩ := F
      refine ⟨_, rfl, p, _, dx, [], rfl, hp2, T.cl_Table, T.n_Table_columns, (by show 0 < 1000; decide), ?_⟩
      generalize hX : upd H2' p _ = H3
      have hp3 : H3 p = some (.ins A.C_Table dx (putF "columns" (.ref ct) [])) := by rw [← hX]; exact upd_same
      have hc3 : H3 ct = some (.tup (sv cs)) := by rw [← hX, upd_ne npc]; exact hc2
      have sm3 : ∀ b o, b ≠ p → H b = some o → H3 b = some o := fun b o hb e => by
        rw [← hX, upd_ne hb]; exact s2' _ _ e
      have h23 : SqL K H3 r (ts.map V.ref) := by
        rw [← hX]; exact seq_upd (s2'.seq h2) hp2 (fun xs z => nomatch z) (fun o u z => nomatch z)
      have hs3 : LsA K H3 ts rs := ⟨hs.len, fun i t x a b => by rw [← hX]; exact sqa_upd (s2'.sqa (hs.at_ i t x a b)) hp2⟩
      clear hX
      have hlk : (putF "columns" (.ref ct) ([] : List (Str × V))).lookup ("columns" : Str) = some (.ref ct) := by rw [lookup_putF, if_pos rfl]
      have hlm : (putF "columns" (.ref ct) ([] : List (Str × V))).lookup ("_in_order" : Str) = none := by rw [lookup_putF, if_neg (by decide +kernel)]; rfl
      refine ⟨_, rfl, r, rfl, ⟨_, h23⟩, fun D hD => lc_it walk_list (fun i H4 => Same H3 H4 ∧ ∃ us : List Addr, H4 D = some (.lst (us.map V.ref)) ∧ Lss .tup H4 us ((rs.take i).map (canon cs))) ⟨same_new hD, [], upd_same, Lss.nil⟩ (fun i H4 _ q => q.1.seq h23) ?_ ?_⟩
      · rintro i x H4 H5 hi ⟨s4, us, hd4, hl4⟩ ⟨rfl, hx⟩
        obtain ⟨b, hb, rfl⟩ := refs_get hx
        obtain ⟨y, hy, ho⟩ := (hs3.same s4).get hb
        refine ⟨rfl, _, rfl, p, dx, _, rfl, s4 _ _ hp3, hlm, _, rfl, p, b, dx, ct, cs, y, _, rfl, s4 _ _ hp3, hlk, s4 _ _ hc3, ho, by omega, fun t H6 s6 ht => ?_⟩
        have hd6 := s6 _ _ hd4
        refine ⟨_, hd6, small_int (by rw [List.length_map, hl4.len, List.length_map, List.length_take]; omega), ?_, us ++ [t], ?_, ?_⟩
        · intro c o e
          rw [upd_ne (ne_of_none e hD)]
          exact s6 _ _ (s4 _ _ e)
        · rw [List.map_append]; exact upd_same
        · rw [take_succ hy, List.map_append]
          exact ((hl4.same s6).app ht).updT hd6 (fun xs z => nomatch z)
      · rintro H4 ⟨s4, us, hd4, hl4⟩
        rw [List.length_map, hs.len, List.take_length] at hl4
        refine ⟨D, _, rfl, .inl ⟨SqL.of hd4, fun rt hrt => ?_⟩⟩
        have hp5 : upd H4 rt (.tup (us.map V.ref)) p = some (.ins A.C_Table dx (putF "columns" (.ref ct) [])) := by rw [upd_ne (ne_of_none (s4 _ _ hp3) hrt)]; exact s4 _ _ hp3
        refine ⟨_, rfl, p, _, dx, _, rfl, hp5, T.cl_Table, T.n_Table_rows, (by show 1 < 1000; decide), ?_⟩
        have nrp : rt ≠ p := fun z => by rw [z] at hrt; rw [s4 _ _ hp3] at hrt; cases hrt
        have nrc : ct ≠ rt := ne_of_none (s4 _ _ hc3) hrt
        refine k _ (fun b o hb e => ?_) ⟨dx, ct, rt, us, upd_same, ?_, ?_, ?_⟩
        · have z := s4 _ _ (sm3 b o hb e)
          rw [upd_ne hb, upd_ne (ne_of_none z hrt)]
          exact z
        · rw [upd_ne npc, upd_ne nrc]; exact s4 _ _ hc3
        · rw [upd_ne nrp]; exact upd_same
        · exact (hl4.same (same_new (o := .tup (us.map V.ref)) hrt)).updT hp5 (fun xs z => nomatch z)
    · have F := fin l H2 s2 (s2 _ _ h1) (ne_of h1 hp (fun z => nomatch z))
      refine .inr ⟨SqT.of (s2 _ _ h1), ?_⟩
      generalize hlc : l = ct at F ⊢
      generalize hHH : H2 = H2' at F ⊢
      obtain ⟨hp2, hc2, npc, s2'⟩ := F
      refine ⟨_, rfl, p, _, dx, [], rfl, hp2, T.cl_Table, T.n_Table_columns, (by show 0 < 1000; decide), ?_⟩
      generalize hX : upd H2' p _ = H3
      have hp3 : H3 p = some (.ins A.C_Table dx (putF "columns" (.ref ct) [])) := by rw [← hX]; exact upd_same
      have hc3 : H3 ct = some (.tup (sv cs)) := by rw [← hX, upd_ne npc]; exact hc2
      have sm3 : ∀ b o, b ≠ p → H b = some o → H3 b = some o := fun b o hb e => by
        rw [← hX, upd_ne hb]; exact s2' _ _ e
      have h23 : SqL K H3 r (ts.map V.ref) := by
        rw [← hX]; exact seq_upd (s2'.seq h2) hp2 (fun xs z => nomatch z) (fun o u z => nomatch z)
      have hs3 : LsA K H3 ts rs := ⟨hs.len, fun i t x a b => by rw [← hX]; exact sqa_upd (s2'.sqa (hs.at_ i t x a b)) hp2⟩
      clear hX
      have hlk : (putF "columns" (.ref ct) ([] : List (Str × V))).lookup ("columns" : Str) = some (.ref ct) := by rw [lookup_putF, if_pos rfl]
      have hlm : (putF "columns" (.ref ct) ([] : List (Str × V))).lookup ("_in_order" : Str) = none := by rw [lookup_putF, if_neg (by decide +kernel)]; rfl
      refine ⟨_, rfl, r, rfl, ⟨_, h23⟩, fun D hD => lc_it walk_list (fun i H4 => Same H3 H4 ∧ ∃ us : List Addr, H4 D = some (.lst (us.map V.ref)) ∧ Lss .tup H4 us ((rs.take i).map (canon cs))) ⟨same_new hD, [], upd_same, Lss.nil⟩ (fun i H4 _ q => q.1.seq h23) ?_ ?_⟩
      · rintro i x H4 H5 hi ⟨s4, us, hd4, hl4⟩ ⟨rfl, hx⟩
        obtain ⟨b, hb, rfl⟩ := refs_get hx
        obtain ⟨y, hy, ho⟩ := (hs3.same s4).get hb
        refine ⟨rfl, _, rfl, p, dx, _, rfl, s4 _ _ hp3, hlm, _, rfl, p, b, dx, ct, cs, y, _, rfl, s4 _ _ hp3, hlk, s4 _ _ hc3, ho, by omega, fun t H6 s6 ht => ?_⟩
        have hd6 := s6 _ _ hd4
        refine ⟨_, hd6, small_int (by rw [List.length_map, hl4.len, List.length_map, List.length_take]; omega), ?_, us ++ [t], ?_, ?_⟩
        · intro c o e
          rw [upd_ne (ne_of_none e hD)]
          exact s6 _ _ (s4 _ _ e)
        · rw [List.map_append]; exact upd_same
        · rw [take_succ hy, List.map_append]
          exact ((hl4.same s6).app ht).updT hd6 (fun xs z => nomatch z)
      · rintro H4 ⟨s4, us, hd4, hl4⟩
        rw [List.length_map, hs.len, List.take_length] at hl4
        refine ⟨D, _, rfl, .inl ⟨SqL.of hd4, fun rt hrt => ?_⟩⟩
        have hp5 : upd H4 rt (.tup (us.map V.ref)) p = some (.ins A.C_Table dx (putF "columns" (.ref ct) [])) := by rw [upd_ne (ne_of_none (s4 _ _ hp3) hrt)]; exact s4 _ _ hp3
        refine ⟨_, rfl, p, _, dx, _, rfl, hp5, T.cl_Table, T.n_Table_rows, (by show 1 < 1000; decide), ?_⟩
        have nrp : rt ≠ p := fun z => by rw [z] at hrt; rw [s4 _ _ hp3] at hrt; cases hrt
        have nrc : ct ≠ rt := ne_of_none (s4 _ _ hc3) hrt
        refine k _ (fun b o hb e => ?_) ⟨dx, ct, rt, us, upd_same, ?_, ?_, ?_⟩
        · have z := s4 _ _ (sm3 b o hb e)
          rw [upd_ne hb, upd_ne (ne_of_none z hrt)]
          exact z
        · rw [upd_ne npc, upd_ne nrc]; exact s4 _ _ hc3
        · rw [upd_ne nrp]; exact upd_same
        · exact (hl4.same (same_new (o := .tup (us.map V.ref)) hrt)).updT hp5 (fun xs z => nomatch z)
end
end My
set_option maxRecDepth 100000
set_option maxHeartbeats 4000000
set_option exponentiation.threshold 10000
namespace My
open PySem L2
/-- the columns outside a row -/
def outs (cs r : List Str) : List Str := cs.filter fun x => decide (x ∉ r)
theorem outs_T {l r : List Str} {z : Str} (hm : z ∉ r) : outs (l ++ [z]) r = outs l r ++ [z] := by
  unfold outs; rw [List.filter_append]; simp [hm]
theorem outs_F {l r : List Str} {z : Str} (hm : z ∈ r) : outs (l ++ [z]) r = outs l r := by
  unfold outs; rw [List.filter_append]; simp [hm]
def turnRow (cs : List Str) (z : Str) (r : List Str) : List Str := if z ∈ canon cs r then outs cs (canon cs r) else canon cs r
theorem fldsT_in_order (ct rt : Addr) : (fldsT ct rt).lookup ("_in_order" : Str) = none := by
  unfold fldsT; rw [lookup_putF, if_neg (by decide +kernel), lookup_putF, if_neg (by decide +kernel)]; rfl
theorem fldsT_inside (ct rt : Addr) : (fldsT ct rt).lookup ("_inside_out" : Str) = none := by
  unfold fldsT; rw [lookup_putF, if_neg (by decide +kernel), lookup_putF, if_neg (by decide +kernel)]; rfl
structure ColsOk (cs : List Str) : Prop where
  g : ∀ z ∈ cs, Good z
  nd : cs.Nodup
  n : cs.length ≤ 12
theorem ColsOk.sub {cs ds : List Str} (h : ColsOk cs) (s : ds.Sublist cs) : ColsOk ds := ⟨fun z hz => h.g z (s.subset hz), s.nodup h.nd, Nat.le_trans s.length_le h.n⟩
theorem canon_sub (cs r : List Str) : (canon cs r).Sublist cs := List.filter_sublist
theorem outs_sub (cs r : List Str) : (outs cs r).Sublist cs := List.filter_sublist
theorem turn_sub (cs : List Str) (z : Str) (r : List Str) : (turnRow cs z r).Sublist cs := by
  unfold turnRow; split
  · exact outs_sub _ _
  · exact canon_sub _ _
theorem sub_row {cs r : List Str} (h : ColsOk cs) (s : r.Sublist cs) : stray cs r = none ∧ r.length ≤ 1000 := ⟨stray_none_iff.mpr ⟨fun x hx => s.subset hx, s.nodup h.nd⟩, by have := s.length_le; have := h.n; omega⟩
theorem mem_canon {cs r : List Str} {x : Str} : x ∈ canon cs r ↔ x ∈ cs ∧ x ∈ r := by unfold canon; rw [List.mem_filter, decide_eq_true_iff]
theorem mem_outs {cs r : List Str} {x : Str} : x ∈ outs cs r ↔ x ∈ cs ∧ x ∉ r := by unfold outs; rw [List.mem_filter, decide_eq_true_iff]
theorem canon_row {cs r ns : List Str} (h : ColsOk cs) (hn : ∀ x ∈ ns, x ∈ cs) : stray (canon cs ns) (canon (canon cs r) ns) = none ∧ (canon (canon cs r) ns).length ≤ 1000 :=
  ⟨stray_none_iff.mpr ⟨fun x hx => mem_canon.mpr ⟨(mem_canon.mp (mem_canon.mp hx).1).1, (mem_canon.mp hx).2⟩, ((canon_sub _ _).trans (canon_sub _ _)).nodup h.nd⟩, by have := ((canon_sub (canon cs r) ns).trans (canon_sub _ _)).length_le; have := h.n; omega⟩
theorem mk_table {C : Addr} {K : PySem.W.Frag} {H : Hp} {l r : Addr} {cs : List Str} {ts : List Addr} {rs : List (List Str)} {Q : VK} (hL : SqL K H l (sv cs) ∨ H l = some (.tup (sv cs))) (hR : SqL K H r (ts.map V.ref)) (hs : LsA K H ts rs) (ok : ColsOk cs) (hr : rs.length ≤ 48)
    (st : ∀ x ∈ rs, stray cs x = none ∧ x.length ≤ 1000) (k : ∀ q H', Same H H' → H q = none → Tb C H' q cs rs → Q (.ref q) H') :
    ∀ x dx, H x = none → H dx = none → dx ≠ x → spTable C K (.ref x :: ([.ref l, .ref r] ++ [])) (upd (upd H dx (.own x)) x (.ins C dx [])) (fun v H2 => v = .non ∧ Q (.ref x) H2) E0 := fun x dx hx hdx hne => by
  have s1 := same_new (o := .own x) hdx
  have hx1 : upd H dx (.own x) x = none := by rw [upd_ne hne.symm]; exact hx
  have s2 : Same H (upd (upd H dx (.own x)) x (.ins C dx [])) := s1.trans (same_new hx1)
  exact ⟨x, l, r, dx, cs, ts, rs, rfl, upd_same, hL.imp (fun q => s2.seq q) (fun q => s2 _ _ q), s2.seq hR, hs.same s2, ok.g, ok.nd, ok.n, hr, st, fun H' hk hT => ⟨rfl, k x H' (fun b o e => hk b o (ne_of_none e hx) (s2 _ _ e)) hx hT⟩⟩
section
variable {P : Program} {w : World} {K : PySem.W.Frag} {mg : Str → Option Value} {base : Heap} {A : Ad}
def spCheck (C : Addr) (sq2 : Hp → Addr → List V → Prop) : Sp := fun vs H Q _ => ∃ p l cs rs ns, vs = [.ref p, .ref l] ∧ Tb C H p cs rs ∧ sq2 H l (sv ns) ∧ ns.length ≤ 1000 ∧ fault cs ns = none ∧ ∀ H', Same H H' → Q .non H'
theorem ok_check (T : Txt P K mg A) : FnOk P w K mg base CX0 3 A.a_check_order A.d_check_order ["table", "order"] (spCheck A.C_Table (SqL K)) := by
  have G_order_fault := ok_fault (P := P) (w := w) (base := base) T
  refine T.F_check_order.ok sc_check_order (fun vs H Q E h => ?_) (fun cdv A' outer s H vs Q E hr h => ?_)
  · obtain ⟨p, l, cs, rs, ns, rfl, _⟩ := h
    rfl
  · obtain ⟨p, l, cs, rs, ns, rfl, ht, h2, hl, hf, k⟩ := h
    obtain ⟨dx, ct, rt, ts, h1, hc, _, _⟩ := ht
    refine ⟨_, (pss_cons (ps_set (i := 2) sc_check_order.nd rfl (Or.inl rfl) (pe_call G_order_fault (hr.mono (by decide)) rfl T.mg_order_fault T.F_order_fault.kp T.b_order_fault .nil pass0 (pa_cons (pe_fld (pv 0) rfl) (pa_cons (pv 1) pa_nil))))
      (pss_one (ps_if (pt_cmpR op_notN (pv 2) pe_non (nomark _)) (pss_one ps_never) pss_nil))), ?_⟩
    refine ⟨_, rfl, _, _, _, _, _, rfl, h1, T.cl_Table, T.n_Table_columns, fldsT_columns _ _, _, rfl, ct, l, cs, ns, rfl, SqT.of hc, h2, hl, fun H2 sm => ?_⟩
    rw [hf]
    refine ⟨_, rfl, rfl, _, rfl, itNe rfl ?_⟩
    exact k _ sm
theorem ok_checkT (T : Txt P K mg A) : FnOk P w K mg base CX0 3 A.a_check_order A.d_check_order ["table", "order"] (spCheck A.C_Table (SqT K)) := by
  have G_order_faultT := ok_faultT (P := P) (w := w) (base := base) T
  refine T.F_check_order.ok sc_check_order (fun vs H Q E h => ?_) (fun cdv A' outer s H vs Q E hr h => ?_)
  · obtain ⟨p, l, cs, rs, ns, rfl, _⟩ := h
    rfl
  · obtain ⟨p, l, cs, rs, ns, rfl, ht, h2, hl, hf, k⟩ := h
    obtain ⟨dx, ct, rt, ts, h1, hc, _, _⟩ := ht
    refine ⟨_, (pss_cons (ps_set (i := 2) sc_check_order.nd rfl (Or.inl rfl) (pe_call G_order_faultT (hr.mono (by decide)) rfl T.mg_order_fault T.F_order_fault.kp T.b_order_fault .nil pass0 (pa_cons (pe_fld (pv 0) rfl) (pa_cons (pv 1) pa_nil))))
      (pss_one (ps_if (pt_cmpR op_notN (pv 2) pe_non (nomark _)) (pss_one ps_never) pss_nil))), ?_⟩
    refine ⟨_, rfl, _, _, _, _, _, rfl, h1, T.cl_Table, T.n_Table_columns, fldsT_columns _ _, _, rfl, ct, l, cs, ns, rfl, SqT.of hc, h2, hl, fun H2 sm => ?_⟩
    rw [hf]
    refine ⟨_, rfl, rfl, _, rfl, itNe rfl ?_⟩
    exact k _ sm
/-- check_order, both ways -/
def spCheckZ (sq2 : Hp → Addr → List V → Prop) (C B : Addr) : Sp := fun vs H Q E => ∃ p l cs rs ns, vs = [.ref p, .ref l] ∧ Tb C H p cs rs ∧ sq2 H l (sv ns) ∧ ns.length ≤ 1000 ∧
  (∀ i, fault cs ns = some i → ∀ d H', Same H H' → H' d = some (.xd [("index", .int (i : Nat))]) → E (.ref B) (some d) H') ∧ (fault cs ns = none → ∀ H', Same H H' → Q .non H')
theorem ok_checkZ (T : Txt P K mg A) : FnOk P w K mg base (L2.CX P w) 3 A.a_check_order A.d_check_order ["table", "order"] (spCheckZ (SqL K) A.C_Table A.C_BadOrder) := by
  have G_order_fault := ok_fault (P := P) (w := w) (base := base) T
  have G_BadOrder_init := ok_BadOrder (P := P) (w := w) (base := base) T
  refine funX T.F_check_order sc_check_order (fun vs H Q E h => ?_) (fun cdv A' outer s H vs Q E hr h => ?_)
  · obtain ⟨p, l, cs, rs, ns, rfl, _⟩ := h
    rfl
  · obtain ⟨p, l, cs, rs, ns, rfl, ht, h2, hl, k, kn⟩ := h
    obtain ⟨dx, ct, rt, ts, h1, hc, _, _⟩ := ht
    refine ⟨_, (pss_cons (ps_set (i := 2) sc_check_order.nd rfl (Or.inl rfl) (pe_call G_order_fault (hr.mono (by decide)) rfl T.mg_order_fault T.F_order_fault.kp T.b_order_fault .nil pass0 (pa_cons (pe_fld (pv 0) rfl) (pa_cons (pv 1) pa_nil))))
      (pss_one (ps_if (pt_cmpR op_notN (pv 2) pe_non (nomark _)) (pss_one (ps_raise rfl (takes_of rfl rfl rfl rfl) (pmk_oex T.SC_BadOrder.ox T.ii_BadOrder T.ti_BadOrder G_BadOrder_init (hr.mono (by decide)) T.b_BadOrder_init .nil pass0 rfl T.mg_BadOrder (pa_cons (pv 2) pa_nil)))) pss_nil))), ?_⟩
    refine ⟨_, rfl, _, _, _, _, _, rfl, h1, T.cl_Table, T.n_Table_columns, fldsT_columns _ _, _, rfl, ct, l, cs, ns, rfl, SqT.of hc, h2, hl, fun H2 sm => ?_⟩
    cases hf : fault cs ns with
    | none => exact ⟨_, rfl, rfl, _, rfl, itNe rfl (kn hf H2 sm)⟩
    | some i =>
      have hi := fault_lt hf
      refine ⟨_, rfl, rfl, _, rfl, itNeN (fun z => nomatch z) ⟨_, rfl, (by decide : 1 ≤ 1000), fun a ha => ⟨a, _, rfl, ⟨_, rfl, by rw [Int.natAbs_natCast]; omega⟩, upd_same, fun d hd hne => ⟨rfl, d, _, upd_same, by rw [upd_ne hne, upd_same], by rw [upd_ne hne] at hd; exact hd, ?_⟩⟩⟩⟩
      rw [upd_ne hne] at hd
      exact k i hf d _ (sm.trans (exc_same ha hd)) upd_same
theorem ok_checkZT (T : Txt P K mg A) : FnOk P w K mg base (L2.CX P w) 3 A.a_check_order A.d_check_order ["table", "order"] (spCheckZ (SqT K) A.C_Table A.C_BadOrder) := by
  have G_order_faultT := ok_faultT (P := P) (w := w) (base := base) T
  have G_BadOrder_init := ok_BadOrder (P := P) (w := w) (base := base) T
  refine funX T.F_check_order sc_check_order (fun vs H Q E h => ?_) (fun cdv A' outer s H vs Q E hr h => ?_)
  · obtain ⟨p, l, cs, rs, ns, rfl, _⟩ := h
    rfl
  · obtain ⟨p, l, cs, rs, ns, rfl, ht, h2, hl, k, kn⟩ := h
    obtain ⟨dx, ct, rt, ts, h1, hc, _, _⟩ := ht
    refine ⟨_, (pss_cons (ps_set (i := 2) sc_check_order.nd rfl (Or.inl rfl) (pe_call G_order_faultT (hr.mono (by decide)) rfl T.mg_order_fault T.F_order_fault.kp T.b_order_fault .nil pass0 (pa_cons (pe_fld (pv 0) rfl) (pa_cons (pv 1) pa_nil))))
      (pss_one (ps_if (pt_cmpR op_notN (pv 2) pe_non (nomark _)) (pss_one (ps_raise rfl (takes_of rfl rfl rfl rfl) (pmk_oex T.SC_BadOrder.ox T.ii_BadOrder T.ti_BadOrder G_BadOrder_init (hr.mono (by decide)) T.b_BadOrder_init .nil pass0 rfl T.mg_BadOrder (pa_cons (pv 2) pa_nil)))) pss_nil))), ?_⟩
    refine ⟨_, rfl, _, _, _, _, _, rfl, h1, T.cl_Table, T.n_Table_columns, fldsT_columns _ _, _, rfl, ct, l, cs, ns, rfl, SqT.of hc, h2, hl, fun H2 sm => ?_⟩
    cases hf : fault cs ns with
    | none => exact ⟨_, rfl, rfl, _, rfl, itNe rfl (kn hf H2 sm)⟩
    | some i =>
      have hi := fault_lt hf
      refine ⟨_, rfl, rfl, _, rfl, itNeN (fun z => nomatch z) ⟨_, rfl, (by decide : 1 ≤ 1000), fun a ha => ⟨a, _, rfl, ⟨_, rfl, by rw [Int.natAbs_natCast]; omega⟩, upd_same, fun d hd hne => ⟨rfl, d, _, upd_same, by rw [upd_ne hne, upd_same], by rw [upd_ne hne] at hd; exact hd, ?_⟩⟩⟩⟩
      rw [upd_ne hne] at hd
      exact k i hf d _ (sm.trans (exc_same ha hd)) upd_same
def spBroken (C : Addr) (sq2 : Hp → Addr → List V → Prop) : Sp := fun vs H Q _ => ∃ p l cs rs ns, vs = [.ref p, .ref l] ∧ Tb C H p cs rs ∧ sq2 H l (sv ns) ∧ ns.length ≤ 1000 ∧ fault cs ns = none ∧ rs.length ≤ 1000 ∧ ∀ q H', Same H H' → H q = none → H' q = some (.lst ((nums (fun r => decide (1 < rn ns cs r)) rs).map fun n => V.int (n : Nat))) → Q (.ref q) H'
def spLay (C : Addr) (sq2 : Hp → Addr → List V → Prop) : Sp := fun vs H Q _ => ∃ p l cs rs ns, vs = [.ref p, .ref l] ∧ Tb C H p cs rs ∧ sq2 H l (sv ns) ∧ ns.length ≤ 1000 ∧ rs.length ≤ 1000 ∧ ∀ H', Same H H' → Q (.bl (decide (fault cs ns = none) && decide ((nums (fun r => decide (1 < rn ns cs r)) rs).length = 0))) H'
theorem ok_broken (T : Txt P K mg A) : FnOk P w K mg base CX0 4 A.a_broken A.d_broken ["table", "order"] (spBroken A.C_Table (SqL K)) := by
  have G_check_order := ok_check (P := P) (w := w) (base := base) T
  have G_runs_of := ok_runs (P := P) (w := w) (base := base) T
  refine T.F_broken.ok sc_broken (fun vs H Q E h => ?_) (fun cdv A' outer s H vs Q E hr h => ?_)
  · obtain ⟨p, l, cs, rs, ns, rfl, _⟩ := h
    rfl
  · obtain ⟨p, l, cs, rs, ns, rfl, hT, hO, hl, hf, hrl, k⟩ := h
    refine ⟨_, (pss_cons (ps_expr (pe_call G_check_order (hr.mono (by decide)) rfl T.mg_check_order T.F_check_order.kp T.b_check_order .nil pass0 (pa_cons (pv 0) (pa_cons (pv 1) pa_nil))))
      (pss_one (ps_ret (pe_lc (own := [("number", 2), ("row", 3)]) (g := gTup K 2 (gCons (gName 2) (gCons (gName 3) gNil))) (tt := _) rfl sc_broken.nd (pi_enumT (by rfl) T.n_enumerate (pa_cons (pe_fld (pv 0) rfl) pa_nil)) (blkOk_by (N := ["table", "order", "number", "row"]) (sc := defScope s_broken) (by decide +kernel)) (fun _ _ _ _ _ => (pg_tup (by rfl) (pgs_cons (pg_name (i := 2) sc_broken.nd rfl (Or.inl rfl)) (pgs_cons (pg_name (i := 3) sc_broken.nd rfl (Or.inl rfl)) pgs_nil)))) (fun _ _ _ _ _ => (pts_one (pt_cmpR op_gt (pe_call G_runs_of (hr.mono (by decide)) rfl T.mg_runs_of T.F_runs_of.kp T.b_runs_of .nil pass0 (pa_cons (pv 3) (pa_cons (pv 1) pa_nil))) pe_int (nomark _)))) (fun _ _ _ _ _ => (pv 2)))))), ?_⟩
    refine ⟨_, rfl, _, rfl, p, l, cs, rs, ns, rfl, hT, hO, hl, hf, fun H1 s1 => ?_⟩
    obtain ⟨dx, ct, rt, ts, h1, hc, hr2, hts⟩ := hT.same s1
    have hO1 := s1.seq hO
    have hlen : (ts.map V.ref).length = rs.length := by rw [List.length_map, hts.len, List.length_map]
    refine ⟨_, rfl, _, _, _, _, _, rfl, h1, T.cl_Table, T.n_Table_rows, fldsT_rows _ _, rt, _, rfl, SqT.of hr2, fun D hD => lc_it walk_enumT (PvS H1 D fun i => ((List.range i).filter fun i => (fun r => decide (1 < rn ns cs r)) (rs.getD i [])).map fun n => V.int (n : Nat)) (pv0 hD rfl) (fun i H2 _ p => p.1.tup (SqT.of hr2)) ?_ ?_⟩
    · rintro i x H3 H4 hi q ⟨t, _, _, rfl, ht, rfl, ⟨⟩, hx⟩
      have hi' : i < rs.length := by rw [hlen] at hi; exact hi
      obtain ⟨b, hb, rfl⟩ := refs_get hx
      obtain ⟨y, hy, ho8⟩ := (hts.same q.1).get hb
      obtain ⟨r, hr3, rfl⟩ : ∃ r, rs[i]? = some r ∧ y = canon cs r := by
        rw [List.getElem?_map] at hy
        cases e : rs[i]? with
        | none => rw [e] at hy; cases hy
        | some r => rw [e] at hy; exact ⟨r, rfl, (Option.some.inj hy).symm⟩
      have p' := q.more (same_new (o := .tup [.int (i : Nat), .ref b]) ht)
      refine ⟨t, _, rfl, SqT.of upd_same, rfl, _, _, rfl, _, _, rfl, rfl, rfl, ?_⟩
      refine ⟨_, rfl, _, rfl, b, l, canon cs r, ns, rfl, .inr (SqT.of (same_new ht _ _ ho8)), p'.1.seq hO1, hl, fun H5 s5 => ⟨_, _, rfl, rfl, _, rfl, ?_⟩⟩
      have p5 := p'.more s5
      by_cases h1 : 1 < runs (flags ns (canon cs r))
      · refine itY (by omega) ⟨_, rfl, p5.push hD (numsT (f := fun r => decide (1 < rn ns cs r)) hr3 (decide_eq_true h1)) (nums_len (fun r => decide (1 < rn ns cs r)) _ i (by omega))⟩
      · exact itN (by omega) (p5.skip (numsF (f := fun r => decide (1 < rn ns cs r)) hr3 (decide_eq_false h1)))
    · rintro H3 ⟨sm, h3⟩
      rw [hlen] at h3
      exact k D H3 (s1.trans sm) (none_of s1 hD) h3
theorem ok_lay (T : Txt P K mg A) : FnOk P w K mg base CX0 5 A.a_is_layout A.d_is_layout ["table", "order"] (spLay A.C_Table (SqL K)) := by
  have G_order_fault := ok_fault (P := P) (w := w) (base := base) T
  have G_broken := ok_broken (P := P) (w := w) (base := base) T
  refine T.F_is_layout.ok sc_is_layout (fun vs H Q E h => ?_) (fun cdv A' outer s H vs Q E hr h => ?_)
  · obtain ⟨p, l, cs, rs, ns, rfl, _⟩ := h
    rfl
  · obtain ⟨p, l, cs, rs, ns, rfl, hT, hO, hl, hrl, k⟩ := h
    refine ⟨_, (pss_one (ps_ret (pe_and (pe_cmpR op_isN (pe_call G_order_fault (hr.mono (by decide)) rfl T.mg_order_fault T.F_order_fault.kp T.b_order_fault .nil pass0 (pa_cons (pe_fld (pv 0) rfl) (pa_cons (pv 1) pa_nil))) pe_non (nomark _)) (pe_one (pe_cmpR op_eq (pe_callB call_len_seq (by rfl) T.n_len (by decide +kernel) (pa_cons (pe_call G_broken (hr.mono (by decide)) rfl T.mg_broken T.F_broken.kp T.b_broken .nil pass0 (pa_cons (pv 0) (pa_cons (pv 1) pa_nil))) pa_nil)) pe_int (nomark _)))))), ?_⟩
    obtain ⟨dx, ct, rt, ts, h1, hc, hr2, hts⟩ := id hT
    refine ⟨_, rfl, _, _, _, _, _, rfl, h1, T.cl_Table, T.n_Table_columns, fldsT_columns _ _, _, rfl, ct, l, cs, ns, rfl, SqT.of hc, hO, hl, fun H1 s1 => ?_⟩
    cases hf : fault cs ns with
    | some j =>
      rw [hf] at k
      refine ⟨rfl, _, rfl, itN (fun z => nomatch z) ?_⟩
      exact k H1 s1
    | none =>
      rw [hf] at k
      refine ⟨rfl, _, rfl, itY rfl ?_⟩
      refine ⟨_, rfl, _, rfl, p, l, cs, rs, ns, rfl, hT.same s1, s1.seq hO, hl, hf, hrl, fun q H2 s2 hq hq2 => ⟨q, _, rfl, .inl (SqL.of hq2), rfl, ?_⟩⟩
      rw [List.length_map]
      have := k H2 (s1.trans s2)
      rw [show decide ((V.int (((nums (fun r => decide (1 < rn ns cs r)) rs).length : Nat) : Int)) = V.int 0) = decide ((nums (fun r => decide (1 < rn ns cs r)) rs).length = 0) from decide_eq_decide.mpr ⟨fun e => by have := V.int.inj e; omega, fun e => by rw [e]; rfl⟩]
      exact this
theorem ok_brokenT (T : Txt P K mg A) : FnOk P w K mg base CX0 4 A.a_broken A.d_broken ["table", "order"] (spBroken A.C_Table (SqT K)) := by
  have G_check_orderT := ok_checkT (P := P) (w := w) (base := base) T
  have G_runs_ofT := ok_runsT (P := P) (w := w) (base := base) T
  refine T.F_broken.ok sc_broken (fun vs H Q E h => ?_) (fun cdv A' outer s H vs Q E hr h => ?_)
  · obtain ⟨p, l, cs, rs, ns, rfl, _⟩ := h
    rfl
  · obtain ⟨p, l, cs, rs, ns, rfl, hT, hO, hl, hf, hrl, k⟩ := h
    refine ⟨_, (pss_cons (ps_expr (pe_call G_check_orderT (hr.mono (by decide)) rfl T.mg_check_order T.F_check_order.kp T.b_check_order .nil pass0 (pa_cons (pv 0) (pa_cons (pv 1) pa_nil))))
      (pss_one (ps_ret (pe_lc (own := [("number", 2), ("row", 3)]) (g := gTup K 2 (gCons (gName 2) (gCons (gName 3) gNil))) (tt := _) rfl sc_broken.nd (pi_enumT (by rfl) T.n_enumerate (pa_cons (pe_fld (pv 0) rfl) pa_nil)) (blkOk_by (N := ["table", "order", "number", "row"]) (sc := defScope s_broken) (by decide +kernel)) (fun _ _ _ _ _ => (pg_tup (by rfl) (pgs_cons (pg_name (i := 2) sc_broken.nd rfl (Or.inl rfl)) (pgs_cons (pg_name (i := 3) sc_broken.nd rfl (Or.inl rfl)) pgs_nil)))) (fun _ _ _ _ _ => (pts_one (pt_cmpR op_gt (pe_call G_runs_ofT (hr.mono (by decide)) rfl T.mg_runs_of T.F_runs_of.kp T.b_runs_of .nil pass0 (pa_cons (pv 3) (pa_cons (pv 1) pa_nil))) pe_int (nomark _)))) (fun _ _ _ _ _ => (pv 2)))))), ?_⟩
    refine ⟨_, rfl, _, rfl, p, l, cs, rs, ns, rfl, hT, hO, hl, hf, fun H1 s1 => ?_⟩
    obtain ⟨dx, ct, rt, ts, h1, hc, hr2, hts⟩ := hT.same s1
    have hO1 := s1.tup hO
    have hlen : (ts.map V.ref).length = rs.length := by rw [List.length_map, hts.len, List.length_map]
    refine ⟨_, rfl, _, _, _, _, _, rfl, h1, T.cl_Table, T.n_Table_rows, fldsT_rows _ _, rt, _, rfl, SqT.of hr2, fun D hD => lc_it walk_enumT (PvS H1 D fun i => ((List.range i).filter fun i => (fun r => decide (1 < rn ns cs r)) (rs.getD i [])).map fun n => V.int (n : Nat)) (pv0 hD rfl) (fun i H2 _ p => p.1.tup (SqT.of hr2)) ?_ ?_⟩
    · rintro i x H3 H4 hi q ⟨t, _, _, rfl, ht, rfl, ⟨⟩, hx⟩
      have hi' : i < rs.length := by rw [hlen] at hi; exact hi
      obtain ⟨b, hb, rfl⟩ := refs_get hx
      obtain ⟨y, hy, ho8⟩ := (hts.same q.1).get hb
      obtain ⟨r, hr3, rfl⟩ : ∃ r, rs[i]? = some r ∧ y = canon cs r := by
        rw [List.getElem?_map] at hy
        cases e : rs[i]? with
        | none => rw [e] at hy; cases hy
        | some r => rw [e] at hy; exact ⟨r, rfl, (Option.some.inj hy).symm⟩
      have p' := q.more (same_new (o := .tup [.int (i : Nat), .ref b]) ht)
      refine ⟨t, _, rfl, SqT.of upd_same, rfl, _, _, rfl, _, _, rfl, rfl, rfl, ?_⟩
      refine ⟨_, rfl, _, rfl, b, l, canon cs r, ns, rfl, .inr (SqT.of (same_new ht _ _ ho8)), p'.1.tup hO1, hl, fun H5 s5 => ⟨_, _, rfl, rfl, _, rfl, ?_⟩⟩
      have p5 := p'.more s5
      by_cases h1 : 1 < runs (flags ns (canon cs r))
      · refine itY (by omega) ⟨_, rfl, p5.push hD (numsT (f := fun r => decide (1 < rn ns cs r)) hr3 (decide_eq_true h1)) (nums_len (fun r => decide (1 < rn ns cs r)) _ i (by omega))⟩
      · exact itN (by omega) (p5.skip (numsF (f := fun r => decide (1 < rn ns cs r)) hr3 (decide_eq_false h1)))
    · rintro H3 ⟨sm, h3⟩
      rw [hlen] at h3
      exact k D H3 (s1.trans sm) (none_of s1 hD) h3
theorem ok_layT (T : Txt P K mg A) : FnOk P w K mg base CX0 5 A.a_is_layout A.d_is_layout ["table", "order"] (spLay A.C_Table (SqT K)) := by
  have G_order_faultT := ok_faultT (P := P) (w := w) (base := base) T
  have G_brokenT := ok_brokenT (P := P) (w := w) (base := base) T
  refine T.F_is_layout.ok sc_is_layout (fun vs H Q E h => ?_) (fun cdv A' outer s H vs Q E hr h => ?_)
  · obtain ⟨p, l, cs, rs, ns, rfl, _⟩ := h
    rfl
  · obtain ⟨p, l, cs, rs, ns, rfl, hT, hO, hl, hrl, k⟩ := h
    refine ⟨_, (pss_one (ps_ret (pe_and (pe_cmpR op_isN (pe_call G_order_faultT (hr.mono (by decide)) rfl T.mg_order_fault T.F_order_fault.kp T.b_order_fault .nil pass0 (pa_cons (pe_fld (pv 0) rfl) (pa_cons (pv 1) pa_nil))) pe_non (nomark _)) (pe_one (pe_cmpR op_eq (pe_callB call_len_seq (by rfl) T.n_len (by decide +kernel) (pa_cons (pe_call G_brokenT (hr.mono (by decide)) rfl T.mg_broken T.F_broken.kp T.b_broken .nil pass0 (pa_cons (pv 0) (pa_cons (pv 1) pa_nil))) pa_nil)) pe_int (nomark _)))))), ?_⟩
    obtain ⟨dx, ct, rt, ts, h1, hc, hr2, hts⟩ := id hT
    refine ⟨_, rfl, _, _, _, _, _, rfl, h1, T.cl_Table, T.n_Table_columns, fldsT_columns _ _, _, rfl, ct, l, cs, ns, rfl, SqT.of hc, hO, hl, fun H1 s1 => ?_⟩
    cases hf : fault cs ns with
    | some j =>
      rw [hf] at k
      refine ⟨rfl, _, rfl, itN (fun z => nomatch z) ?_⟩
      exact k H1 s1
    | none =>
      rw [hf] at k
      refine ⟨rfl, _, rfl, itY rfl ?_⟩
      refine ⟨_, rfl, _, rfl, p, l, cs, rs, ns, rfl, hT.same s1, s1.tup hO, hl, hf, hrl, fun q H2 s2 hq hq2 => ⟨q, _, rfl, .inl (SqL.of hq2), rfl, ?_⟩⟩
      rw [List.length_map]
      have := k H2 (s1.trans s2)
      rw [show decide ((V.int (((nums (fun r => decide (1 < rn ns cs r)) rs).length : Nat) : Int)) = V.int 0) = decide ((nums (fun r => decide (1 < rn ns cs r)) rs).length = 0) from decide_eq_decide.mpr ⟨fun e => by have := V.int.inj e; omega, fun e => by rw [e]; rfl⟩]
      exact this
def spGet (C : Addr) : Sp := fun vs H Q _ => ∃ p n cs rs, vs = [.ref p, .int (n : Nat)] ∧ Tb C H p cs rs ∧ n < rs.length ∧ ∀ t r, rs[n]? = some r → H t = some (.tup (sv (canon cs r))) → Q (.ref t) H
theorem ok_get (T : Txt P K mg A) : FnOk P w K mg base CX0 1 A.a_Table_getitem A.d_Table_getitem ["self", "at"] (spGet A.C_Table) := by
  refine T.F_Table_getitem.ok sc_Table_getitem (fun vs H Q E h => ?_) (fun cdv A' outer s H vs Q E hr h => ?_)
  · obtain ⟨p, n, cs, rs, rfl, _⟩ := h
    rfl
  · obtain ⟨p, n, cs, rs, rfl, hT, hn, k⟩ := h
    refine ⟨_, (pss_cons (ps_if (pt_not (pt_chain op_le op_lt pe_int (pv 1) (pe_callB call_len_seq (by rfl) T.n_len (by decide +kernel) (pa_cons (pe_fld (pv 0) rfl) pa_nil)))) (pss_one ps_never) pss_nil)
      (pss_one (ps_ret (pe_ix ix_tup (pe_fld (pv 0) rfl) (pv 1) (fun _ _ => rfl))))), ?_⟩
    obtain ⟨dx, ct, rt, ts, h1, hc, hr2, hts⟩ := hT
    have hn' : n < (rs.map (canon cs)).length := by rw [List.length_map]; exact hn
    obtain ⟨t, r2, et, er, ht⟩ := hts.ex hn'
    have hl : (ts.map V.ref).length = rs.length := by rw [List.length_map, hts.len, List.length_map]
    obtain ⟨r, hr3, rfl⟩ : ∃ r, rs[n]? = some r ∧ r2 = canon cs r := by
      rw [List.getElem?_map] at er
      cases e : rs[n]? with
      | none => rw [e] at er; cases er
      | some r => rw [e] at er; exact ⟨r, rfl, (Option.some.inj er).symm⟩
    refine ⟨_, rfl, _, _, rfl, rfl, _, rfl, itY (by omega) ⟨_, rfl, _, _, _, _, _, rfl, h1, T.cl_Table, T.n_Table_rows, fldsT_rows _ _, rt, _, rfl, .inr (SqT.of hr2), _, _, rfl, rfl, _, rfl, ifF (by rw [decide_eq_true (by rw [hl]; omega)]; rfl) ?_⟩⟩
    exact ⟨_, rfl, _, _, _, _, _, rfl, h1, T.cl_Table, T.n_Table_rows, fldsT_rows _ _, _, rfl, rt, _, _, _, rfl, rfl, SqT.of hr2, atR_of et, k t r hr3 ht⟩
end
end My
set_option maxRecDepth 100000
set_option maxHeartbeats 4000000
set_option exponentiation.threshold 10000
namespace My
open PySem L2
theorem sv_snoc' (l : List Str) (x : Str) : sv (l ++ [x]) = sv l ++ [V.str x] := List.map_append
def spCell (K : PySem.W.Frag) : Sp := fun vs H Q _ => ∃ (a : Addr) (ns : List Int) (k : Int), vs = [.ref a, .int k] ∧ SqL K H a (ns.map V.int) ∧ 0 ≤ k ∧ ∀ z, Q (.int z) H
def spPool (K : PySem.W.Frag) : Sp := fun vs H Q _ => ∃ (a : Addr) (ns : List Int) (k c : Int), vs = [.ref a, .int k, .int c] ∧ SqL K H a (ns.map V.int) ∧ 0 ≤ k ∧ 0 ≤ c ∧ c ≤ 1000 ∧
  ∀ p ps H', Same H H' → H' p = some (.lst (ps.map V.int)) → (ps.length : Int) = c → Pool ps → Q (.ref p) H'
section
variable {P : Program} {w : World} {K : PySem.W.Frag} {mg : Str → Option Value} {base : Heap} {A : Ad}
theorem ok_cell (T : Txt P K mg A) : FnOk P w K mg base CX0 1 A.a_law_cell A.d_law_cell ["script", "k"] (spCell K) := by
  refine T.F_law_cell.ok sc_law_cell (fun vs H Q E h => ?_) (fun cdv A' outer s H vs Q E hr h => ?_)
  · obtain ⟨a, ns, k, rfl, _⟩ := h
    rfl
  · obtain ⟨a, ns, i, rfl, hS, h0, k⟩ := h
    refine ⟨_, (pss_cons (ps_if (pt_cmpR op_lt (pv 1) (pe_callB call_len_seq (by rfl) T.n_len (by decide +kernel) (pa_cons (pv 0) pa_nil)) (nomark _)) (pss_one (ps_ret (pe_ix ix_list (pv 0) (pv 1) (fun _ _ => rfl)))) pss_nil)
      (pss_one (ps_ret pe_int))), ?_⟩
    refine ⟨_, rfl, _, rfl, _, _, rfl, .inl hS, _, _, rfl, rfl, _, rfl, ?_⟩
    by_cases hi : i < ((ns.map V.int).length : Int)
    · refine itY hi ?_
      obtain ⟨v, hv, e⟩ := atI_ok (xs := ns) h0 (by rw [len_map_int] at hi; exact hi)
      exact ⟨_, rfl, _, rfl, _, _, _, _, rfl, rfl, hS, e, k v⟩
    · refine itN hi ?_
      exact k 0
theorem ok_pool (T : Txt P K mg A) : FnOk P w K mg base CX0 2 A.a_law_pool A.d_law_pool ["script", "k", "count"] (spPool K) := by
  have G_law_cell : FnOk P w K mg base CX0 1 A.a_law_cell A.d_law_cell ["script", "k"] (spCell K) := ok_cell T
  refine T.F_law_pool.ok sc_law_pool (fun vs H Q E h => ?_) (fun cdv A' outer s H vs Q E hr h => ?_)
  · obtain ⟨a, ns, k, c, rfl, _⟩ := h
    rfl
  · obtain ⟨a, ns, i, c, rfl, hS, h0, hc0, hc, k⟩ := h
    refine ⟨_, (pss_cons (ps_set (i := 3) sc_law_pool.nd rfl (Or.inl rfl) (pe_callB call_abs (by rfl) T.n_abs (by decide +kernel) (pa_cons (pe_call G_law_cell (hr.mono (by decide)) rfl T.mg_law_cell T.F_law_cell.kp T.b_law_cell .nil pass0 (pa_cons (pv 0) (pa_cons (pv 1) pa_nil))) pa_nil)))
      (pss_cons (ps_set (i := 4) sc_law_pool.nd rfl (Or.inl rfl) (pe_lst pa_nil))
      (pss_cons (ps_if (pt_cmpR op_ge (pv 3) (pe_op op_pow pe_int pe_int) (nomark _)) (pss_cons (ps_set (i := 3) sc_law_pool.nd rfl (Or.inl rfl) (pe_op op_sub (pv 3) (pe_op op_pow pe_int pe_int)))
      (pss_cons (ps_for PassesOwn.never rfl (pi_range1 (by rfl) T.n_range (pa_cons (pv 2) pa_nil)) (pg_name (i := 5) sc_law_pool.nd rfl (Or.inl rfl))
        (pss_cons (ps_expr (pe_bm PySem.F.plainAttrs_list PySem.F.slot_list_append PySem.F.type_list_append mt_append (pv 4) (pa_cons (pe_op op_mod (pe_callTy call_int1 (by rfl) T.n_int (by decide +kernel) (pa_cons (pv 3) pa_nil)) pe_int) pa_nil)))
      (pss_one (ps_set (i := 3) sc_law_pool.nd rfl (Or.inl rfl) (pe_op op_fdiv (pv 3) pe_int)))))
      (pss_one (ps_ret (pv 4))))) pss_nil)
      (pss_cons (ps_for PassesOwn.never rfl (pi_range1 (by rfl) T.n_range (pa_cons (pv 2) pa_nil)) (pg_name (i := 5) sc_law_pool.nd rfl (Or.inl rfl))
        (pss_cons (ps_set (i := 6) sc_law_pool.nd rfl (Or.inl rfl) (pe_op op_mod (pe_callTy call_int1 (by rfl) T.n_int (by decide +kernel) (pa_cons (pe_op op_add (pe_op op_add (pe_op op_add (pe_op op_mul (pv 3) pe_int) (pe_op op_mul (pe_op op_add (pv 5) pe_int) pe_int)) (pe_op op_mul (pv 1) pe_int)) pe_int) pa_nil)) pe_int))
      (pss_cons (ps_set (i := 7) sc_law_pool.nd rfl (Or.inl rfl) (pe_op op_mod (pe_callTy call_int1 (by rfl) T.n_int (by decide +kernel) (pa_cons (pe_op op_add (pe_op op_add (pe_op op_mulW (pv 6) (pv 6)) (pe_op op_mul (pv 3) pe_int)) (pv 5)) pa_nil)) pe_int))
      (pss_cons (ps_set (i := 8) sc_law_pool.nd rfl (Or.inl rfl) (pe_op op_mod (pe_callTy call_int1 (by rfl) T.n_int (by decide +kernel) (pa_cons (pe_op op_add (pe_op op_mulW (pv 7) (pv 7)) (pv 6)) pa_nil)) pe_int))
      (pss_one (ps_expr (pe_bm PySem.F.plainAttrs_list PySem.F.slot_list_append PySem.F.type_list_append mt_append (pv 4) (pa_cons (pe_op op_mod (pe_callTy call_int1 (by rfl) T.n_int (by decide +kernel) (pa_cons (pe_op op_fdiv (pv 8) pe_int) pa_nil)) pe_int) pa_nil))))))))
      (pss_one (ps_ret (pv 4))))))), ?_⟩
    refine ⟨_, rfl, _, rfl, a, ns, i, rfl, hS, h0, fun z => ⟨_, rfl, ?_⟩⟩
    refine ⟨by show 0 ≤ sizeLine; decide, fun l hl => ?_⟩
    refine ⟨_, rfl, _, _, rfl, rfl, ⟨by decide, by decide, by decide⟩, _, _, rfl, rfl, _, rfl, ?_⟩
    have fin : ∀ ps : List Int, ps.length = c.toNat → Pool ps → Q (.ref l) (upd H l (.lst (ps.map V.int))) := fun ps h1 h2 => k l ps _ (same_new hl) upd_same (by omega) h2
    refine ite2 (fun hb => ?_) (fun hb => ?_)
    · refine ⟨_, rfl, _, _, rfl, rfl, ⟨by decide, by decide, by decide⟩, _, _, rfl, rfl, ?_⟩
      refine ⟨_, rfl, c, rfl, by omega, by omega, for_range (n := c.toNat) (fun j σ H2 => ∃ (v : Int) (ps : List Int) (u : Option V), σ = [some (.ref a), some (.int i), some (.int c), some (.int v), some (.ref l), u, none, none, none] ∧
        H2 = upd H l (.lst (ps.map V.int)) ∧ ps.length = j ∧ Pool ps) ⟨_, [], none, rfl, rfl, rfl, Pool.nil⟩ ?_ ?_⟩
      · rintro j σ H2 hj ⟨v, ps, u, rfl, rfl, hl2, hp⟩
        refine ⟨_, rfl, .inl ⟨rfl, _, SqL.of upd_same⟩, _, rfl, .inl ⟨_, rfl, ?_⟩⟩
        refine ⟨_, _, rfl, rfl, by show (0 : Int) < 27720; decide, l, _, _, rfl, rfl, upd_same, small_int (by rw [len_map_int]; omega), ?_⟩
        refine ⟨_, rfl, _, _, rfl, rfl, ⟨by decide, by decide⟩, ?_⟩
        refine ⟨_, ps ++ [v % 27720], _, rfl, ?_, by simp [hl2], hp.app (Int.emod_nonneg _ (by decide)) (Int.emod_lt_of_pos _ (by decide))⟩
        rw [upd_upd, List.map_append]
        rfl
      · rintro σ H2 ⟨v, ps, u, rfl, rfl, hl2, hp⟩
        exact ⟨_, rfl, fin ps hl2 hp⟩
    · refine ⟨_, rfl, c, rfl, by omega, by omega, for_range (n := c.toNat) (fun j σ H2 => ∃ (v : Int) (ps : List Int) (u u1 u2 u3 : Option V), σ = [some (.ref a), some (.int i), some (.int c), some (.int v), some (.ref l), u, u1, u2, u3] ∧
        H2 = upd H l (.lst (ps.map V.int)) ∧ ps.length = j ∧ Pool ps) ⟨_, [], none, none, none, none, rfl, rfl, rfl, Pool.nil⟩ ?_ ?_⟩
      · rintro j σ H2 hj ⟨v, ps, u, u1, u2, u3, rfl, rfl, hl2, hp⟩
        refine ⟨_, rfl, _, _, rfl, rfl, .inr (by decide), _, rfl, _, _, rfl, rfl, _, _, rfl, rfl, .inr (by decide), _, _, rfl, rfl, _, rfl, _, _, rfl, rfl, .inr (by decide), _, _, rfl, rfl, _, _, rfl, rfl, .inl ⟨_, rfl, _, _, rfl, rfl, by show (0 : Int) < 2147483647; decide, ?_⟩⟩
        refine ⟨_, rfl, _, rfl, _, _, rfl, rfl, mulW (mod_sz (by decide) (by decide)) (mod_sz (by decide) (by decide)), _, rfl, _, _, rfl, rfl, .inr (by decide), _, _, rfl, rfl, _, rfl, _, _, rfl, rfl, .inl ⟨_, rfl, _, _, rfl, rfl, by show (0 : Int) < 2147483629; decide, ?_⟩⟩
        refine ⟨_, rfl, _, rfl, _, _, rfl, rfl, mulW (mod_sz (by decide) (by decide)) (mod_sz (by decide) (by decide)), _, rfl, _, _, rfl, rfl, .inl ⟨_, rfl, _, _, rfl, rfl, by show (0 : Int) < 2147483587; decide, ?_⟩⟩
        refine ⟨_, rfl, .inl ⟨rfl, _, SqL.of upd_same⟩, _, rfl, _, _, rfl, rfl, ⟨by decide, by decide⟩, .inl ⟨_, rfl, ?_⟩⟩
        refine ⟨_, _, rfl, rfl, by show (0 : Int) < 27720; decide, l, _, _, rfl, rfl, upd_same, small_int (by rw [len_map_int]; omega), ?_⟩
        exact ⟨_, ps ++ [_], _, _, _, _, rfl, upd_app, by simp [hl2], hp.app (Int.emod_nonneg _ (by decide)) (Int.emod_lt_of_pos _ (by decide))⟩
      · rintro σ H2 ⟨v, ps, u, u1, u2, u3, rfl, rfl, hl2, hp⟩
        exact ⟨_, rfl, fin ps hl2 hp⟩
def spSize : Sp := fun vs H Q _ => ∃ (d : Int), vs = [.int d, .int 12] ∧ ∀ (n : Nat) H', Same H H' → n ≤ 12 → Q (.int (n : Nat)) H'
theorem ok_size (T : Txt P K mg A) : FnOk P w K mg base CX0 1 A.a_law_size A.d_law_size ["draw", "most"] spSize := by
  refine T.F_law_size.ok sc_law_size (fun vs H Q E h => ?_) (fun cdv A' outer s H vs Q E hr h => ?_)
  · obtain ⟨d, rfl, _⟩ := h
    rfl
  · obtain ⟨d, rfl, k⟩ := h
    refine ⟨_, (pss_cons (ps_set (i := 2) sc_law_size.nd rfl (Or.inl rfl) (pe_lst (pa_cons pe_int (pa_cons pe_int (pa_cons pe_int (pa_cons pe_int (pa_cons pe_int (pa_cons pe_int (pa_cons pe_int (pa_cons pe_int (pa_cons pe_int (pa_cons pe_int (pa_cons pe_int (pa_cons pe_int (pa_cons pe_int (pa_cons pe_int (pa_cons pe_int (pa_cons pe_int (pa_cons pe_int (pa_cons pe_int (pa_cons pe_int (pa_cons pe_int (pa_cons pe_int (pa_cons pe_int (pa_cons pe_int (pa_cons pe_int pa_nil))))))))))))))))))))))))))
      (pss_one (ps_ret (pe_callB (call_min2 rfl) (by rfl) T.n_min (by decide +kernel) (pa_cons (pv 1) (pa_cons (pe_ix ix_list (pv 2) (pe_op op_mod (pe_callTy call_int1 (by rfl) T.n_int (by decide +kernel) (pa_cons (pv 0) pa_nil)) pe_int) (fun _ _ => rfl)) pa_nil)))))), ?_⟩
    refine ⟨by show 24 ≤ sizeLine; decide, fun l hl => ?_⟩
    have h0 := Int.emod_nonneg d (show (24 : Int) ≠ 0 by decide)
    have h1 := Int.emod_lt_of_pos d (show (0 : Int) < 24 by decide)
    obtain ⟨v, hv, e⟩ := atI_ok (xs := szs) (j := d % 24) h0 (by show _ < (24 : Int); exact h1)
    have hb : ∀ v ∈ szs, 0 ≤ v ∧ v ≤ 12 := by decide
    have hv2 := hb v hv
    refine ⟨_, rfl, _, rfl, _, rfl, .inl ⟨_, rfl, _, _, rfl, rfl, by show (0 : Int) < 24; decide, l, _, _, _, rfl, rfl, SqL.of upd_same, e, _, _, rfl, ?_⟩⟩
    have := k v.toNat _ (same_new (o := .lst (szs.map V.int)) hl) (by omega)
    rw [show ((v.toNat : Nat) : Int) = v by omega] at this
    rw [show (if v < 12 then v else 12) = v by split <;> omega]
    exact this
def spOrder (K : PySem.W.Frag) : Sp := fun vs H Q _ => ∃ (n p : Addr) (ns : List Str) (ps : List Int) (st : Int), vs = [.ref n, .ref p, .int st] ∧ SqL K H n (sv ns) ∧ SqL K H p (ps.map V.int) ∧ ns.length ≤ 12 ∧ 0 ≤ st ∧ st + ns.length ≤ ps.length ∧ ∀ a os H', Same H H' → H a = none → H' a = some (.lst (sv os)) → os.Perm ns → Q (.ref a) H'
theorem ok_order (T : Txt P K mg A) : FnOk P w K mg base CX0 1 A.a_law_order A.d_law_order ["names", "pool", "start"] (spOrder K) := by
  refine T.F_law_order.ok sc_law_order (fun vs H Q E h => ?_) (fun cdv A' outer s H vs Q E hr h => ?_)
  · obtain ⟨n, p, ns, ps, st, rfl, _⟩ := h
    rfl
  · obtain ⟨n, p, ns, ps, st, rfl, hN, hP, hnl, hst, hpl, k⟩ := h
    refine ⟨_, (pss_cons (ps_set (i := 3) sc_law_order.nd rfl (Or.inl rfl) (pe_callTy (show CallR _ _ (rListOf K) from call_list_of) (by rfl) T.n_list (by decide +kernel) (pa_cons (pv 0) pa_nil)))
      (pss_cons (ps_set (i := 4) sc_law_order.nd rfl (Or.inl rfl) (pe_lst pa_nil))
      (pss_cons (ps_for PassesOwn.never rfl (pi_range1 (by rfl) T.n_range (pa_cons (pe_callB call_len_seq (by rfl) T.n_len (by decide +kernel) (pa_cons (pv 0) pa_nil)) pa_nil)) (pg_name (i := 5) sc_law_order.nd rfl (Or.inl rfl))
        (pss_cons (ps_set (i := 6) sc_law_order.nd rfl (Or.inl rfl) (pe_op op_mod (pe_callTy call_int1 (by rfl) T.n_int (by decide +kernel) (pa_cons (pe_ix ix_list (pv 1) (pe_op op_add (pv 2) (pv 5)) (fun _ _ => rfl)) pa_nil)) (pe_callB call_len_seq (by rfl) T.n_len (by decide +kernel) (pa_cons (pv 3) pa_nil))))
      (pss_cons (ps_expr (pe_bm PySem.F.plainAttrs_list PySem.F.slot_list_append PySem.F.type_list_append mt_append (pv 4) (pa_cons (pe_ix ix_list (pv 3) (pv 6) (fun _ _ => rfl)) pa_nil)))
      (pss_one (ps_set (i := 3) sc_law_order.nd rfl (Or.inl rfl) (pe_op op_cat (pe_slice sl_list (pv 3) po_none (po_some (pv 6))) (pe_slice sl_list (pv 3) (po_some (pe_op op_add (pv 6) pe_int)) po_none)))))))
      (pss_one (ps_ret (pv 4)))))), ?_⟩
    refine ⟨_, rfl, n, _, rfl, .inl hN, fun l0 hl0 => ?_⟩
    have s1 := same_new (o := .lst (sv ns)) hl0
    refine ⟨by show 0 ≤ sizeLine; decide, fun o ho => ?_⟩
    have s2 := s1.trans (same_new (o := .lst []) ho)
    have ho' : H o = none := none_of s1 ho
    have hl1 : upd (upd H l0 (.lst (sv ns))) o (.lst []) l0 = some (.lst (sv ns)) := by rw [upd_ne (ne_of_none upd_same ho)]; exact upd_same
    refine ⟨_, rfl, n, _, rfl, .inl (s2.seq hN), _, rfl, by rw [len_sv]; omega, by rw [len_sv]; omega, ?_⟩
    have e1 : (((sv ns).length : Nat) : Int).toNat = ns.length := by rw [len_sv, Int.toNat_natCast]
    refine for_range (n := (((sv ns).length : Nat) : Int).toNat) (fun i σ H2 => Same H H2 ∧ ∃ (l : Addr) (ls os : List Str) (u1 u2 : Option V), σ = [some (.ref n), some (.ref p), some (.int st), some (.ref l), some (.ref o), u1, u2] ∧ H l = none ∧ l ≠ o ∧ H2 l = some (.lst (sv ls)) ∧ H2 o = some (.lst (sv os)) ∧ (os ++ ls).Perm ns ∧ os.length = i)
      ⟨s2, l0, ns, [], none, none, rfl, hl0, ne_of_none upd_same ho, hl1, upd_same, .refl _, rfl⟩ ?_ ?_
    · rintro i σ H2 hi ⟨sm, l, ls, os, u1, u2, rfl, hl, hlo, h2, h3, hp, hi2⟩
      rw [e1] at hi
      have hlen := hp.length_eq
      rw [List.length_append] at hlen
      have hls : 0 < ls.length := by omega
      obtain ⟨v, hv, e⟩ := atI_ok (xs := ps) (j := st + (0 + (i : Int))) (by omega) (by omega)
      have hd : (0 : Int) < ((sv ls).length : Nat) := by rw [len_sv]; omega
      have m0 := Int.emod_nonneg v (Int.ne_of_gt hd)
      have m1 := Int.emod_lt_of_pos v hd
      refine ⟨_, rfl, _, rfl, _, rfl, _, _, rfl, rfl, p, _, _, _, rfl, rfl, sm.seq hP, e, .inl ⟨_, rfl, _, rfl, l, _, rfl, .inl (SqL.of h2), _, _, rfl, rfl, hd, ?_⟩⟩
      obtain ⟨j, hj⟩ := Int.eq_ofNat_of_zero_le m0
      rw [hj] at m1
      rw [len_sv] at m1
      have hj2 : j < ls.length := by omega
      have hz : ls[j]? = some ls[j] := List.getElem?_eq_getElem hj2
      have ej : atI (sv ls) (j : Int) = some (V.str ls[j]) := atI_nat (by rw [List.getElem?_map, hz]; rfl)
      refine ⟨_, rfl, .inl ⟨rfl, _, SqL.of h3⟩, _, rfl, _, rfl, l, _, _, _, rfl, rfl, SqL.of h2, by rw [hj]; exact ej, o, _, _, rfl, rfl, h3, small_int (by rw [len_sv]; omega), ?_⟩
      have hlo2 : upd H2 o (.lst (sv os ++ [V.str ls[j]])) l = some (.lst (sv ls)) := by rw [upd_ne hlo]; exact h2
      refine ⟨_, rfl, _, rfl, _, rfl, l, _, rfl, SqL.of hlo2, fun a ha => ?_⟩
      have hla : l ≠ a := ne_of_none hlo2 ha
      refine ⟨_, rfl, _, rfl, _, _, rfl, rfl, _, rfl, l, _, rfl, SqL.of (by rw [upd_ne hla]; exact hlo2), fun b hb => ?_⟩
      have ha2 : a ≠ b := ne_of_none upd_same hb
      refine ⟨a, b, _, _, rfl, rfl, by rw [upd_ne ha2]; exact upd_same, upd_same, ?_, fun c hc => ?_⟩
      · rw [hj, show ((j : Int) + 1) = ((j + 1 : Nat) : Int) by omega, cut_take (by rw [len_sv]; omega), cut_drop (by rw [len_sv]; omega)]
        have := len_sv ls
        refine Nat.le_trans (m := 24) ?_ (by decide)
        rw [List.length_take, List.length_drop]; omega
      · rw [hj, cut_take (by rw [len_sv]; omega), sv_take] at hb
        rw [hj, show ((j : Int) + 1) = ((j + 1 : Nat) : Int) by omega] at hc ⊢
        rw [cut_take (by rw [len_sv]; omega), cut_drop (by rw [len_sv]; omega), sv_take, sv_drop] at hc ⊢
        rw [sv_app]
        have ob : o ≠ b := ne_of_none (show upd (upd H2 o _) a _ o = some _ by rw [upd_ne (ne_of_none upd_same ha)]; exact upd_same) hb
        have oa : o ≠ a := ne_of_none upd_same ha
        have oc : o ≠ c := ne_of_none (show upd (upd (upd H2 o _) a _) b _ o = some _ by rw [upd_ne ob, upd_ne oa]; exact upd_same) hc
        have sX : ∀ (x : Addr) (u : HO), H x = some u → upd (upd (upd H2 o (.lst (sv os ++ [V.str ls[j]]))) a (.lst (sv (ls.take j)))) b (.lst (sv (ls.drop (j + 1)))) x = some u := fun x u hx => by
          have e2 := sm x u hx
          have e3 : upd H2 o (.lst (sv os ++ [V.str ls[j]])) x = some u := by
            rw [upd_ne (fun z => by rw [z, ho'] at hx; cases hx)]; exact e2
          have e4 : upd (upd H2 o (.lst (sv os ++ [V.str ls[j]]))) a (.lst (sv (ls.take j))) x = some u := by rw [upd_ne (ne_of_none e3 ha)]; exact e3
          rw [upd_ne (ne_of_none e4 hb)]; exact e4
        refine ⟨fun x u hx => ?_, c, ls.take j ++ ls.drop (j + 1), os ++ [ls[j]], _, _, rfl, ?_, oc.symm, upd_same, ?_, ?_, ?_⟩
        · rw [upd_ne (ne_of_none (sX x u hx) hc)]; exact sX x u hx
        · cases e : H c with
          | none => rfl
          | some u => rw [sX _ _ e] at hc; cases hc
        · rw [upd_ne oc, upd_ne ob, upd_ne oa, upd_same, sv_snoc']
        · have := perm_pick hz
          rw [List.append_assoc, List.singleton_append]
          exact ((this.append_left os)).trans hp
        · rw [List.length_append, hi2]; rfl
    · rintro σ H2 ⟨sm, l, ls, os, u1, u2, rfl, hl, hlo, h2, h3, hp, hi2⟩
      rw [e1] at hi2
      have hlen := hp.length_eq
      rw [List.length_append] at hlen
      have : ls = [] := List.length_eq_zero_iff.mp (by omega)
      rw [this, List.append_nil] at hp
      exact ⟨_, rfl, k o os H2 sm ho' h3 hp⟩
def spRow (K : PySem.W.Frag) : Sp := fun vs H Q _ => ∃ (n h : Addr) (cs hs : List Str) (d : Int) (free : Bool), vs = [.ref n, .ref h, .int d, .bl free] ∧ SqL K H n (sv cs) ∧ SqL K H h (sv hs) ∧ cs.Nodup ∧ cs.length ≤ 12 ∧ hs.Perm cs ∧
  ∀ r ms H', Same H H' → H r = none → H' r = some (.lst (sv ms)) → RowOk cs ms → Q (.ref r) H'
theorem ok_row (T : Txt P K mg A) : FnOk P w K mg base CX0 1 A.a_law_row A.d_law_row ["names", "hidden", "draw", "free"] (spRow K) := by
  refine T.F_law_row.ok sc_law_row (fun vs H Q E h => ?_) (fun cdv A' outer s H vs Q E hr h => ?_)
  · obtain ⟨n, h, cs, hs, d, free, rfl, _⟩ := h
    rfl
  · obtain ⟨n, h, cs, hs, d, free, rfl, hN, hH, nd, hcl, hp, k⟩ := h
    refine ⟨_, (pss_cons (ps_set (i := 4) sc_law_row.nd rfl (Or.inl rfl) (pe_lst pa_nil))
      (pss_cons (ps_if (pt_val (pv 3)) (pss_cons (ps_for PassesOwn.never rfl (pi_list (pv 0)) (pg_name (i := 5) sc_law_row.nd rfl (Or.inl rfl))
        (pss_cons (ps_if (pt_cmpR op_eq (pe_op op_mod (pe_callTy call_int1 (by rfl) T.n_int (by decide +kernel) (pa_cons (pv 2) pa_nil)) pe_int) pe_int (nomark _)) (pss_one (ps_expr (pe_bm PySem.F.plainAttrs_list PySem.F.slot_list_append PySem.F.type_list_append mt_append (pv 4) (pa_cons (pv 5) pa_nil)))) pss_nil)
      (pss_one (ps_set (i := 2) sc_law_row.nd rfl (Or.inl rfl) (pe_op op_fdiv (pv 2) pe_int)))))
      (pss_one (ps_ret (pv 4)))) pss_nil)
      (pss_cons (ps_set (i := 6) sc_law_row.nd rfl (Or.inl rfl) (pe_op op_add (pe_callB call_len_seq (by rfl) T.n_len (by decide +kernel) (pa_cons (pv 1) pa_nil)) pe_int))
      (pss_cons (ps_set (i := 7) sc_law_row.nd rfl (Or.inl rfl) (pe_op op_mod (pe_callTy call_int1 (by rfl) T.n_int (by decide +kernel) (pa_cons (pv 2) pa_nil)) (pv 6)))
      (pss_cons (ps_set (i := 8) sc_law_row.nd rfl (Or.inl rfl) (pe_op op_mod (pe_callTy call_int1 (by rfl) T.n_int (by decide +kernel) (pa_cons (pe_op op_fdiv (pv 2) pe_int) pa_nil)) (pv 6)))
      (pss_cons (ps_set (i := 4) sc_law_row.nd rfl (Or.inl rfl) (pe_slice sl_list (pv 1) (po_some (pv 7)) (po_some (pe_op op_add (pv 7) (pv 8)))))
      (pss_cons (ps_set (i := 9) sc_law_row.nd rfl (Or.inl rfl) (pe_op op_mod (pe_callTy call_int1 (by rfl) T.n_int (by decide +kernel) (pa_cons (pe_op op_fdiv (pv 2) pe_int) pa_nil)) (pv 6)))
      (pss_one (ps_ret (pe_op op_cat (pe_slice sl_list (pv 4) (po_some (pv 9)) po_none) (pe_slice sl_list (pv 4) po_none (po_some (pv 9))))))))))))), ?_⟩
    have hhl : hs.length ≤ 12 := by rw [hp.length_eq]; exact hcl
    refine ⟨by show 0 ≤ sizeLine; decide, fun a ha => ?_⟩
    have sa := same_new (o := .lst []) ha
    refine ⟨_, rfl, _, rfl, ?_⟩
    cases free with
    | true =>
      refine ifT rfl ?_
      refine ⟨_, rfl, n, rfl, ⟨_, sa.seq hN⟩, for_it walk_list (fun j σ H4 => Same H H4 ∧ ∃ (ys : List Str) (lf : Int) (u u1 u2 u3 u4 : Option V), σ = [some (.ref n), some (.ref h), some (.int lf), some (.bl true), some (.ref a), u, u1, u2, u3, u4] ∧ H4 a = some (.lst (sv ys)) ∧ ys.Sublist (cs.take j))
        ⟨sa, [], d, none, none, none, none, none, rfl, upd_same, List.nil_sublist _⟩ (fun j σ H4 _ q => q.1.seq hN) ?_ ?_⟩
      · rintro j x σ H40 H4 hi ⟨s4, ys, lf, u, u1, u2, u3, u4, rfl, h4, hys⟩ ⟨rfl, hx⟩
        obtain ⟨z, hz, rfl⟩ := sv_get hx
        have hyl := hys.length_le
        rw [List.length_take] at hyl
        refine ⟨_, rfl, .inl ⟨_, rfl, _, _, rfl, rfl, by show (0 : Int) < 2; decide, rfl, _, rfl, ite2 (fun hb => ?_) (fun hb => ?_)⟩⟩
        · refine ⟨_, rfl, .inl ⟨rfl, _, SqL.of h4⟩, _, rfl, a, _, _, rfl, rfl, h4, small_int (by rw [len_sv]; omega), ?_⟩
          refine ⟨_, rfl, _, _, rfl, rfl, ⟨by decide, by decide⟩, fun c' o' e => ?_, ys ++ [z], _, _, _, _, _, _, rfl, ?_, ?_⟩
          · rw [upd_ne (ne_of_none e ha)]; exact s4 _ _ e
          · rw [sv_snoc']; exact upd_same
          · rw [take_succ hz]; exact hys.append (List.Sublist.refl _)
        · refine ⟨_, rfl, _, _, rfl, rfl, ⟨by decide, by decide⟩, s4, ys, _, _, _, _, _, _, rfl, h4, ?_⟩
          rw [take_succ hz]; exact hys.trans (List.sublist_append_left _ _)
      rintro σ H4 ⟨s4, ys, lf, u, u1, u2, u3, u4, rfl, h4, hys⟩
      rw [len_sv, List.take_length] at hys
      exact ⟨_, rfl, k a ys H4 s4 ha h4 ⟨hys.nodup nd, fun y hy => hys.subset hy⟩⟩
    | false =>
      refine ifF rfl ?_
      have lp : (0 : Int) < ((sv hs).length : Int) + 1 := by omega
      refine ⟨_, rfl, h, _, rfl, .inl (sa.seq hH), _, _, rfl, rfl, ?_⟩
      refine ⟨_, rfl, .inl ⟨_, rfl, _, rfl, _, _, rfl, rfl, lp, ?_⟩⟩
      refine ⟨_, rfl, _, _, rfl, rfl, ⟨by decide, by decide⟩, .inl ⟨_, rfl, _, rfl, _, _, rfl, rfl, lp, ?_⟩⟩
      obtain ⟨zs, e, hzs⟩ := cut_sv hs (some (d % (((sv hs).length : Int) + 1))) (some (d % (((sv hs).length : Int) + 1) + d / 13 % (((sv hs).length : Int) + 1)))
      refine ⟨_, rfl, _, rfl, _, rfl, _, rfl, _, rfl, _, _, rfl, rfl, _, rfl, h, _, rfl, sa.seq hH, fun b hb => ?_⟩
      have s2 := sa.trans (same_new (o := .lst (cutV (sv hs) (some (d % (((sv hs).length : Int) + 1))) (some (d % (((sv hs).length : Int) + 1) + d / 13 % (((sv hs).length : Int) + 1))))) hb)
      rw [e] at s2
      refine ⟨_, rfl, _, _, rfl, rfl, ⟨by decide, by decide⟩, .inl ⟨_, rfl, _, rfl, _, _, rfl, rfl, lp, ?_⟩⟩
      obtain ⟨c, hc⟩ := Int.eq_ofNat_of_zero_le (Int.emod_nonneg (d / 169) (Int.ne_of_gt lp))
      have hb2 : upd (upd H a (.lst [])) b (.lst (sv zs)) b = some (.lst (sv zs)) := upd_same
      refine ⟨_, rfl, _, rfl, _, rfl, b, _, rfl, SqL.of (by rw [e]; exact hb2), fun p hp2 => ?_⟩
      have hbp : b ≠ p := ne_of_none upd_same hp2
      rw [e] at hp2
      have s3 := s2.trans (same_new (o := .lst (sv (zs.drop c))) hp2)
      refine ⟨_, rfl, _, rfl, _, rfl, b, _, rfl, SqL.of (by rw [upd_ne hbp, e]; exact hb2), fun q hq => ?_⟩
      have hpq : p ≠ q := ne_of_none upd_same hq
      rw [e, hc, cut_dropG, sv_drop] at hq
      have s4 := s3.trans (same_new (o := .lst (sv (zs.take c))) hq)
      refine ⟨p, q, _, _, rfl, rfl, by rw [upd_ne hpq]; exact upd_same, upd_same, ?_, fun t ht => ?_⟩
      · rw [hc, cut_dropG, cut_takeG]
        have := hzs.length_le
        refine Nat.le_trans (m := 24) ?_ (by decide)
        rw [List.length_drop, List.length_take, len_sv]; omega
      · rw [e, hc, cut_dropG, cut_takeG, sv_drop, sv_take] at ht ⊢
        have s5 := s4.trans (same_new (o := .lst (sv (zs.drop c ++ zs.take c))) ht)
        rw [sv_app]
        have pr := rot_perm zs c
        refine k t _ _ s5 (none_of s4 ht) upd_same ⟨pr.nodup_iff.mpr (hzs.nodup (hp.nodup_iff.mpr nd)), fun y hy => hp.mem_iff.mp (hzs.subset (pr.mem_iff.mp hy))⟩
def spRows (K : PySem.W.Frag) : Sp := fun vs H Q _ => ∃ (n h p : Addr) (cs hs : List Str) (ps : List Int) (c m : Int), vs = [.ref n, .ref h, .ref p, .int 14, .int c, .int m] ∧ SqL K H n (sv cs) ∧ SqL K H h (sv hs) ∧ SqL K H p (ps.map V.int) ∧ ps.length = 60 ∧ 0 ≤ c ∧ c ≤ 6 ∧ cs.Nodup ∧ cs.length ≤ 12 ∧ hs.Perm cs ∧
  ∀ D ts rs H', Same H H' → H D = none → H' D = some (.lst (ts.map V.ref)) → Rows H' D ts cs rs → (rs.length : Int) = c → Q (.ref D) H'
theorem ok_rows (T : Txt P K mg A) : FnOk P w K mg base CX0 2 A.a_law_rows A.d_law_rows ["names", "hidden", "pool", "start", "count", "mode"] (spRows K) := by
  have G_law_row := ok_row (P := P) (w := w) (base := base) T
  refine T.F_law_rows.ok sc_law_rows (fun vs H Q E h => ?_) (fun cdv A' outer s H vs Q E hr h => ?_)
  · obtain ⟨n, h, p, cs, hs, ps, c, m, rfl, _⟩ := h
    rfl
  · obtain ⟨n, h, p, cs, hs, ps, c, m, rfl, hN, hH, hP, hpl, c0, c6, nd, hcl, hp, k⟩ := h
    refine ⟨_, (pss_cons (ps_set (i := 6) sc_law_rows.nd rfl (Or.inl rfl) (pe_lst pa_nil))
      (pss_cons (ps_for PassesOwn.never rfl (pi_range1 (by rfl) T.n_range (pa_cons (pv 4) pa_nil)) (pg_name (i := 7) sc_law_rows.nd rfl (Or.inl rfl))
        (pss_cons (ps_set (i := 8) sc_law_rows.nd rfl (Or.inl rfl) (pe_or (pe_cmpR op_eq (pv 5) pe_int (nomark _)) (pe_one (pe_and (pe_cmpR op_eq (pv 5) pe_int (nomark _)) (pe_one (pe_cmpR op_eq (pv 7) (pe_op op_sub (pv 4) pe_int) (nomark _)))))))
      (pss_one (ps_expr (pe_bm PySem.F.plainAttrs_list PySem.F.slot_list_append PySem.F.type_list_append mt_append (pv 6) (pa_cons (pe_call G_law_row (hr.mono (by decide)) rfl T.mg_law_row T.F_law_row.kp T.b_law_row .nil pass0 (pa_cons (pv 0) (pa_cons (pv 1) (pa_cons (pe_ix ix_list (pv 2) (pe_op op_add (pv 3) (pv 7)) (fun _ _ => rfl)) (pa_cons (pv 8) pa_nil))))) pa_nil))))))
      (pss_one (ps_ret (pv 6))))), ?_⟩
    refine ⟨by show 0 ≤ sizeLine; decide, fun D hD => ?_⟩
    have s0 := same_new (o := .lst []) hD
    refine ⟨_, rfl, c, rfl, by omega, by omega, for_range (n := c.toNat) (fun i σ H2 => Same H H2 ∧ ∃ (ts : List Addr) (rs : List (List Str)) (u1 u2 : Option V), σ = [some (.ref n), some (.ref h), some (.ref p), some (.int 14), some (.int c), some (.int m), some (.ref D), u1, u2] ∧ H2 D = some (.lst (ts.map V.ref)) ∧ Rows H2 D ts cs rs ∧ rs.length = i)
      ⟨s0, [], [], none, none, rfl, upd_same, ⟨Lss.nil, (fun t h => nomatch h), (fun t h => nomatch h)⟩, rfl⟩ ?_ ?_⟩
    · rintro i σ H2 hi ⟨sm, ts, rs, u1, u2, rfl, hd2, hR, hl⟩
      obtain ⟨v, hv, e⟩ := atI_ok (xs := ps) (j := (14 : Int) + (0 + (i : Int))) (by omega) (by omega)
      refine ⟨_, rfl, rfl, _, rfl, ite2 (fun hb => ?_) (fun hb => ⟨_, rfl, rfl, _, rfl, ite2 (fun hb2 => ⟨_, rfl, _, rfl, _, _, rfl, rfl, rfl, ?_⟩) (fun hb2 => ?_)⟩)⟩
      all_goals
        refine ⟨_, rfl, .inl ⟨rfl, _, SqL.of hd2⟩, _, rfl, _, rfl, _, rfl, _, rfl, _, rfl, _, _, rfl, rfl, p, _, _, _, rfl, rfl, sm.seq hP, e, _, rfl, n, h, cs, hs, v, _, rfl, sm.seq hN, sm.seq hH, nd, hcl, hp, fun r ms H3 s3 hr0 hr3 ok => ?_⟩
        refine ⟨D, _, _, rfl, rfl, s3 _ _ hd2, small_int (by rw [List.length_map, hR.1.len]; omega), fun x u e => ?_, ts ++ [r], rs ++ [ms], _, _, rfl, ?_, hR.push s3 hr3 (ne_of_none hd2 hr0).symm ok, ?_⟩
        · rw [upd_ne (ne_of_none e hD)]; exact s3 _ _ (sm _ _ e)
        · rw [List.map_append]; exact upd_same
        · rw [List.length_append, hl]; rfl
    · rintro σ H2 ⟨sm, ts, rs, u1, u2, rfl, hd2, hR, hl⟩
      exact ⟨_, rfl, k D ts rs H2 sm hD hd2 hR (by omega)⟩
def spNames : Sp := fun vs H Q _ => ∃ (n : Nat) (sd : Int), vs = [.int (n : Nat), .int sd] ∧ n ≤ 12 ∧ ∀ D ns H', Same H H' → H' D = some (.lst (sv ns)) → ns.length = n → Nms ns → Q (.ref D) H'
theorem ok_names (T : Txt P K mg A) : FnOk P w K mg base CX0 1 A.a_law_names A.d_law_names ["count", "seed"] spNames := by
  refine T.F_law_names.ok sc_law_names (fun vs H Q E h => ?_) (fun cdv A' outer s H vs Q E hr h => ?_)
  · obtain ⟨n, sd, rfl, _⟩ := h
    rfl
  · obtain ⟨n, sd, rfl, hn, k⟩ := h
    refine ⟨_, (pss_cons (ps_if (pt_cmpR op_gt (pe_op op_mod (pe_callTy call_int1 (by rfl) T.n_int (by decide +kernel) (pa_cons (pv 1) pa_nil)) pe_int) pe_int (nomark _)) (pss_cons (ps_set (i := 2) sc_law_names.nd rfl (Or.inl rfl) (pe_lst (pa_cons pe_str (pa_cons pe_str (pa_cons pe_str (pa_cons pe_str (pa_cons pe_str (pa_cons pe_str (pa_cons pe_str (pa_cons pe_str (pa_cons pe_str (pa_cons pe_str (pa_cons pe_str (pa_cons pe_str pa_nil))))))))))))))
      (pss_cons (ps_if (pt_cmpR op_eq (pe_op op_mod (pe_callTy call_int1 (by rfl) T.n_int (by decide +kernel) (pa_cons (pv 1) pa_nil)) pe_int) pe_int (nomark _)) (pss_one (ps_set (i := 2) sc_law_names.nd rfl (Or.inl rfl) (pe_lst (pa_cons pe_str (pa_cons pe_str (pa_cons pe_str (pa_cons pe_str (pa_cons pe_str (pa_cons pe_str (pa_cons pe_str (pa_cons pe_str (pa_cons pe_str (pa_cons pe_str (pa_cons pe_str (pa_cons pe_str pa_nil))))))))))))))) pss_nil)
      (pss_cons (ps_set (i := 3) sc_law_names.nd rfl (Or.inl rfl) (pe_op op_mod (pe_callTy call_int1 (by rfl) T.n_int (by decide +kernel) (pa_cons (pe_op op_fdiv (pv 1) pe_int) pa_nil)) pe_int))
      (pss_one (ps_ret (pe_slice sl_list (pe_op op_cat (pe_slice sl_list (pv 2) (po_some (pv 3)) po_none) (pe_slice sl_list (pv 2) po_none (po_some (pv 3)))) po_none (po_some (pv 0)))))))) pss_nil)
      (pss_cons (ps_set (i := 4) sc_law_names.nd rfl (Or.inl rfl) (pe_lst pa_nil))
      (pss_cons (ps_for PassesOwn.never rfl (pi_range1 (by rfl) T.n_range (pa_cons (pv 0) pa_nil)) (pg_name (i := 5) sc_law_names.nd rfl (Or.inl rfl))
        (pss_cons (ps_set (i := 6) sc_law_names.nd rfl (Or.inl rfl) (pe_ix ix_str pe_str (pe_op op_mod (pe_callTy call_int1 (by rfl) T.n_int (by decide +kernel) (pa_cons (pe_op op_add (pe_op op_mul (pv 5) pe_int) (pv 1)) pa_nil)) pe_int) (fun _ _ => rfl)))
      (pss_cons (ps_set (i := 7) sc_law_names.nd rfl (Or.inl rfl) (pe_op op_mulS (pe_ix ix_str pe_str (pe_op op_mod (pe_callTy call_int1 (by rfl) T.n_int (by decide +kernel) (pa_cons (pe_op op_add (pe_op op_fdiv (pv 1) pe_int) (pv 5)) pa_nil)) pe_int) (fun _ _ => rfl)) (pe_op op_mod (pe_callTy call_int1 (by rfl) T.n_int (by decide +kernel) (pa_cons (pe_op op_add (pe_op op_fdiv (pv 1) pe_int) (pe_op op_mul (pv 5) pe_int)) pa_nil)) pe_int)))
      (pss_cons (ps_set (i := 8) sc_law_names.nd rfl (Or.inl rfl) (pe_op op_mulS (pe_ix ix_str pe_str (pe_op op_mod (pe_callTy call_int1 (by rfl) T.n_int (by decide +kernel) (pa_cons (pe_op op_add (pe_op op_fdiv (pv 1) pe_int) (pe_op op_mul (pv 5) pe_int)) pa_nil)) pe_int) (fun _ _ => rfl)) (pe_op op_mod (pe_callTy call_int1 (by rfl) T.n_int (by decide +kernel) (pa_cons (pe_op op_add (pe_op op_fdiv (pv 1) pe_int) (pv 5)) pa_nil)) pe_int)))
      (pss_cons (ps_if (pt_cmpR op_eq (pe_op op_mod (pe_callTy call_int1 (by rfl) T.n_int (by decide +kernel) (pa_cons (pv 1) pa_nil)) pe_int) pe_int (nomark _)) (pss_cons (ps_set (i := 7) sc_law_names.nd rfl (Or.inl rfl) (pe_op op_mulS pe_str (pe_op op_mod (pe_callTy call_int1 (by rfl) T.n_int (by decide +kernel) (pa_cons (pe_op op_fdiv (pv 1) pe_int) pa_nil)) pe_int)))
      (pss_one (ps_set (i := 8) sc_law_names.nd rfl (Or.inl rfl) (pe_op op_mulS pe_str (pe_op op_mod (pe_callTy call_int1 (by rfl) T.n_int (by decide +kernel) (pa_cons (pe_op op_fdiv (pv 1) pe_int) pa_nil)) pe_int))))) pss_nil)
      (pss_one (ps_expr (pe_bm PySem.F.plainAttrs_list PySem.F.slot_list_append PySem.F.type_list_append mt_append (pv 4) (pa_cons (pe_op op_add_str (pe_op op_add_str (pv 7) (pv 6)) (pv 8)) pa_nil)))))))))
      (pss_one (ps_ret (pv 4)))))), ?_⟩
    refine ⟨_, rfl, .inl ⟨_, rfl, _, _, rfl, rfl, by show (0 : Int) < 6; decide, _, _, rfl, rfl, _, rfl, ite2 (fun hb => ?_) (fun hb => ?_)⟩⟩
    · refine ⟨by show 12 ≤ sizeLine; decide, fun a0 ha0 => ?_⟩
      have s1 := same_new (o := .lst (sv W1)) ha0
      refine ⟨_, rfl, .inl ⟨_, rfl, _, _, rfl, rfl, by show (0 : Int) < 6; decide, rfl, _, rfl, ite2 (fun hb2 => ?_) (fun hb2 => ?_)⟩⟩
      · refine ⟨by show 12 ≤ sizeLine; decide, fun a ha => ?_⟩
        have s2 := s1.trans (same_new (o := .lst (sv W2)) ha)
        refine ⟨_, rfl, _, _, rfl, rfl, ⟨by decide, by decide⟩, .inl ⟨_, rfl, _, _, rfl, rfl, by show (0 : Int) < 12; decide, ?_⟩⟩
        obtain ⟨c, hc⟩ := Int.eq_ofNat_of_zero_le (Int.emod_nonneg (sd / 6) (show (12 : Int) ≠ 0 by decide))
        refine ⟨_, rfl, _, rfl, _, rfl, a, _, rfl, SqL.of upd_same, fun p hp2 => ?_⟩
        have hbp : a ≠ p := ne_of_none upd_same hp2
        have hp3 := hp2
        have s3 := s2.trans (same_new (o := .lst (cutV (sv W2) (some (sd / 6 % 12)) none)) hp2)
        refine ⟨_, rfl, _, rfl, _, rfl, a, _, rfl, SqL.of (by rw [upd_ne hbp]; exact upd_same), fun q hq => ?_⟩
        have hpq : p ≠ q := ne_of_none upd_same hq
        have s4 := s3.trans (same_new (o := .lst (cutV (sv W2) none (some (sd / 6 % 12)))) hq)
        refine ⟨p, q, _, _, rfl, rfl, by rw [upd_ne hpq]; exact upd_same, upd_same, ?_, fun t ht => ?_⟩
        · rw [hc, cut_dropG, cut_takeG]
          refine Nat.le_trans (m := 24) ?_ (by decide)
          rw [List.length_drop, List.length_take]
          show 12 - c + min c 12 ≤ 24
          omega
        · have s5 := s4.trans (same_new (o := .lst (cutV (sv W2) (some (sd / 6 % 12)) none ++ cutV (sv W2) none (some (sd / 6 % 12)))) ht)
          refine ⟨_, rfl, _, rfl, t, _, rfl, SqL.of upd_same, fun r hr2 => ?_⟩
          have s6 := s5.trans (same_new (o := .lst (cutV (cutV (sv W2) (some (sd / 6 % 12)) none ++ cutV (sv W2) none (some (sd / 6 % 12))) none (some (n : Int)))) hr2)
          have eL : cutV (cutV (sv W2) (some (sd / 6 % 12)) none ++ cutV (sv W2) none (some (sd / 6 % 12))) none (some (n : Int)) = sv ((((W2).drop c) ++ (W2).take c).take n) := by
            rw [hc, cut_dropG, cut_takeG, cut_takeG, sv_drop, sv_take, sv_app, sv_take]
          have pr := rot_perm W2 c
          refine k r _ _ s6 (by rw [← eL]; exact upd_same) ?_ ?_
          · rw [List.length_take, pr.length_eq, show (W2).length = 12 from rfl]; omega
          · exact w2_ok.sub pr (List.take_sublist _ _)
      · have a := a0
        have s2 := s1
        refine ⟨_, rfl, _, _, rfl, rfl, ⟨by decide, by decide⟩, .inl ⟨_, rfl, _, _, rfl, rfl, by show (0 : Int) < 12; decide, ?_⟩⟩
        obtain ⟨c, hc⟩ := Int.eq_ofNat_of_zero_le (Int.emod_nonneg (sd / 6) (show (12 : Int) ≠ 0 by decide))
        refine ⟨_, rfl, _, rfl, _, rfl, a0, _, rfl, SqL.of upd_same, fun p hp2 => ?_⟩
        have hbp : a0 ≠ p := ne_of_none upd_same hp2
        have hp3 := hp2
        have s3 := s2.trans (same_new (o := .lst (cutV (sv W1) (some (sd / 6 % 12)) none)) hp2)
        refine ⟨_, rfl, _, rfl, _, rfl, a0, _, rfl, SqL.of (by rw [upd_ne hbp]; exact upd_same), fun q hq => ?_⟩
        have hpq : p ≠ q := ne_of_none upd_same hq
        have s4 := s3.trans (same_new (o := .lst (cutV (sv W1) none (some (sd / 6 % 12)))) hq)
        refine ⟨p, q, _, _, rfl, rfl, by rw [upd_ne hpq]; exact upd_same, upd_same, ?_, fun t ht => ?_⟩
        · rw [hc, cut_dropG, cut_takeG]
          refine Nat.le_trans (m := 24) ?_ (by decide)
          rw [List.length_drop, List.length_take]
          show 12 - c + min c 12 ≤ 24
          omega
        · have s5 := s4.trans (same_new (o := .lst (cutV (sv W1) (some (sd / 6 % 12)) none ++ cutV (sv W1) none (some (sd / 6 % 12)))) ht)
          refine ⟨_, rfl, _, rfl, t, _, rfl, SqL.of upd_same, fun r hr2 => ?_⟩
          have s6 := s5.trans (same_new (o := .lst (cutV (cutV (sv W1) (some (sd / 6 % 12)) none ++ cutV (sv W1) none (some (sd / 6 % 12))) none (some (n : Int)))) hr2)
          have eL : cutV (cutV (sv W1) (some (sd / 6 % 12)) none ++ cutV (sv W1) none (some (sd / 6 % 12))) none (some (n : Int)) = sv ((((W1).drop c) ++ (W1).take c).take n) := by
            rw [hc, cut_dropG, cut_takeG, cut_takeG, sv_drop, sv_take, sv_app, sv_take]
          have pr := rot_perm W1 c
          refine k r _ _ s6 (by rw [← eL]; exact upd_same) ?_ ?_
          · rw [List.length_take, pr.length_eq, show (W1).length = 12 from rfl]; omega
          · exact w1_ok.sub pr (List.take_sublist _ _)
    · refine ⟨by show 0 ≤ sizeLine; decide, fun D hD => ?_⟩
      have s0 := same_new (o := .lst []) hD
      refine ⟨_, rfl, _, rfl, by omega, by omega, for_range (n := ((n : Nat) : Int).toNat) (fun i σ H2 => Same H H2 ∧ ∃ (ns : List Str) (u1 u2 u3 u4 : Option V), σ = [some (.int (n : Nat)), some (.int sd), none, none, some (.ref D), u1, u2, u3, u4] ∧ H2 D = some (.lst (sv ns)) ∧ Mades sd ns ∧ ns.length = i)
        ⟨s0, [], none, none, none, none, rfl, upd_same, (fun t z e => by simp at e), rfl⟩ ?_ ?_⟩
      · rintro i σ H2 hi ⟨sm, ns, u1, u2, u3, u4, rfl, hd2, hM, hl⟩
        have c0 := Int.emod_nonneg ((0 + (i : Int)) * 5 + sd) (show (12 : Int) ≠ 0 by decide)
        have c1 := Int.emod_lt_of_pos ((0 + (i : Int)) * 5 + sd) (show (0 : Int) < 12 by decide)
        have a0 := Int.emod_nonneg (sd / 12 + (0 + (i : Int))) (show (14 : Int) ≠ 0 by decide)
        have a1 := Int.emod_lt_of_pos (sd / 12 + (0 + (i : Int))) (show (0 : Int) < 14 by decide)
        have b0 := Int.emod_nonneg (sd / 7 + (0 + (i : Int)) * 3) (show (14 : Int) ≠ 0 by decide)
        have b1 := Int.emod_lt_of_pos (sd / 7 + (0 + (i : Int)) * 3) (show (0 : Int) < 14 by decide)
        have m0 := Int.emod_nonneg (sd / 5 + (0 + (i : Int)) * 2) (show (3 : Int) ≠ 0 by decide)
        have m1 := Int.emod_lt_of_pos (sd / 5 + (0 + (i : Int)) * 2) (show (0 : Int) < 3 by decide)
        have n0 := Int.emod_nonneg (sd / 11 + (0 + (i : Int))) (show (4 : Int) ≠ 0 by decide)
        have n1 := Int.emod_lt_of_pos (sd / 11 + (0 + (i : Int))) (show (0 : Int) < 4 by decide)
        have p0 := Int.emod_nonneg (sd / 2) (show (3 : Int) ≠ 0 by decide)
        have p1 := Int.emod_lt_of_pos (sd / 2) (show (0 : Int) < 3 by decide)
        have q0 := Int.emod_nonneg (sd / 6) (show (3 : Int) ≠ 0 by decide)
        have q1 := Int.emod_lt_of_pos (sd / 6) (show (0 : Int) < 3 by decide)
        refine ⟨_, rfl, _, _, rfl, rfl, .inr (by decide), _, rfl, _, _, rfl, rfl, .inl ⟨_, rfl, _, _, rfl, rfl, by show (0 : Int) < 12; decide, _, _, _, rfl, rfl, core_len, core_at c0 c1, ?_⟩⟩
        refine ⟨_, rfl, _, _, rfl, rfl, ⟨by decide, by decide⟩, _, rfl, _, _, rfl, rfl, .inl ⟨_, rfl, _, _, rfl, rfl, by show (0 : Int) < 14; decide, _, _, _, rfl, rfl, left_len, left_at a0 a1, ?_⟩⟩
        refine ⟨_, rfl, _, _, rfl, rfl, ⟨by decide, by decide⟩, _, rfl, _, _, rfl, rfl, .inr (by decide), _, _, rfl, rfl, .inl ⟨_, rfl, _, _, rfl, rfl, by show (0 : Int) < 3; decide, _, _, rfl, rfl, mulOk1 _ m0 (by omega), ?_⟩⟩
        refine ⟨_, rfl, _, _, rfl, rfl, ⟨by decide, by decide⟩, _, rfl, _, _, rfl, rfl, .inr (by decide), _, _, rfl, rfl, .inl ⟨_, rfl, _, _, rfl, rfl, by show (0 : Int) < 14; decide, _, _, _, rfl, rfl, right_len, right_at b0 b1, ?_⟩⟩
        refine ⟨_, rfl, _, _, rfl, rfl, ⟨by decide, by decide⟩, _, rfl, _, _, rfl, rfl, .inl ⟨_, rfl, _, _, rfl, rfl, by show (0 : Int) < 4; decide, _, _, rfl, rfl, mulOk1 _ n0 (by omega), ?_⟩⟩
        have sl := side1 (c := 109 + ((sd / 12 + (0 + (i : Int))) % 14).toNat) (n := (sd / 5 + (0 + (i : Int)) * 2) % 3) (by omega) (by omega) m0 (by omega)
        have sr := side1 (c := 122 - ((sd / 7 + (0 + (i : Int)) * 3) % 14).toNat) (n := (sd / 11 + (0 + (i : Int))) % 4) (by omega) (by omega) n0 (by omega)
        have ecore : ((0 + (i : Int)) * 5 + sd) % 12 = ((ns.length : Int) * 5 + sd) % 12 := by rw [hl, Int.zero_add]
        have fin : ∀ (l r : Str), Side l → Side r → l.length + 1 ≤ sizeLine ∧ (l ++ l1 (97 + (((0 + (i : Int)) * 5 + sd) % 12).toNat)).length + r.length ≤ sizeLine ∧ Mades sd (ns ++ [l ++ l1 (97 + (((0 + (i : Int)) * 5 + sd) % 12).toNat) ++ r]) := fun l r hl2 hr2 => by
          have x1 := hl2.2
          have x2 := hr2.2
          refine ⟨Nat.le_trans (m := 24) (by omega) (by decide), Nat.le_trans (m := 24) ?_ (by decide), hM.app ?_⟩
          · rw [Str.length_append, show (l1 (97 + (((0 + (i : Int)) * 5 + sd) % 12).toNat)).length = 1 from rfl]; omega
          · rw [← ecore]; exact made_of hl2 hr2 (by omega) (by omega)
        refine ⟨_, rfl, .inl ⟨_, rfl, _, _, rfl, rfl, by show (0 : Int) < 2; decide, rfl, _, rfl, ite2 (fun hb2 => ?_) (fun hb2 => ?_)⟩⟩
        · refine ⟨_, rfl, _, _, rfl, rfl, ⟨by decide, by decide⟩, .inl ⟨_, rfl, _, _, rfl, rfl, by show (0 : Int) < 3; decide, _, _, rfl, rfl, by rw [em]; exact mulOk1 _ p0 (by omega), ?_⟩⟩
          refine ⟨_, rfl, _, _, rfl, rfl, ⟨by decide, by decide⟩, .inl ⟨_, rfl, _, _, rfl, rfl, by show (0 : Int) < 3; decide, _, _, rfl, rfl, by rw [ez]; exact mulOk1 _ q0 (by omega), ?_⟩⟩
          have sl2 := side1 (c := 109) (n := sd / 2 % 3) (by omega) (by omega) p0 (by omega)
          have sr2 := side1 (c := 122) (n := sd / 6 % 3) (by omega) (by omega) q0 (by omega)
          rw [← em] at sl2
          rw [← ez] at sr2
          obtain ⟨f1, f2, f3⟩ := fin _ _ sl2 sr2
          refine ⟨_, rfl, .inl ⟨rfl, _, SqL.of hd2⟩, _, rfl, _, rfl, _, _, rfl, rfl, f1, _, rfl, _, _, rfl, rfl, f2, D, _, _, rfl, rfl, hd2, small_int (by rw [len_sv]; omega), ?_⟩
          refine ⟨fun x u e => ?_, _, _, _, _, _, rfl, ?_, f3, by rw [List.length_append, hl]; rfl⟩
          · rw [upd_ne (ne_of_none e hD)]; exact sm _ _ e
          · rw [sv_snoc']; exact upd_same
        · obtain ⟨f1, f2, f3⟩ := fin _ _ sl sr
          refine ⟨_, rfl, .inl ⟨rfl, _, SqL.of hd2⟩, _, rfl, _, rfl, _, _, rfl, rfl, f1, _, rfl, _, _, rfl, rfl, f2, D, _, _, rfl, rfl, hd2, small_int (by rw [len_sv]; omega), ?_⟩
          refine ⟨fun x u e => ?_, _, _, _, _, _, rfl, ?_, f3, by rw [List.length_append, hl]; rfl⟩
          · rw [upd_ne (ne_of_none e hD)]; exact sm _ _ e
          · rw [sv_snoc']; exact upd_same
      · rintro σ H2 ⟨sm, ns, u1, u2, u3, u4, rfl, hd2, hM, hl⟩
        rw [Int.toNat_natCast] at hl
        exact ⟨_, rfl, k D ns H2 sm hd2 hl (hM.nms (by omega))⟩
end
end My
set_option maxRecDepth 100000
set_option maxHeartbeats 4000000
set_option exponentiation.threshold 10000
namespace My
open PySem L2
abbrev ivs (b : List Int) : List V := b.map V.int
def stepsM : List Int := [0, 1, 2, 3, 0, 1, 5, 40, 0, 2, 7, 90000]
theorem stepsM_le : ∀ v ∈ stepsM, 0 ≤ v ∧ v ≤ 90000 := by decide
/-- years that never fall -/
structure Yrs (ys : List Int) : Prop where
  up : ys.Pairwise (· ≤ ·)
  lo : ∀ y ∈ ys, 0 ≤ y
  hi : ∀ y ∈ ys, y + 90000 ≤ 90000 * (ys.length : Int)
section
variable {P : Program} {w : World} {K : PySem.W.Frag} {mg : Str → Option Value} {base : Heap} {A : Ad}
def spSteps (K : PySem.W.Frag) : Sp := fun vs H Q _ => ∃ (p : Addr) (ps : List Int) (st : Int) (c : Nat), vs = [.ref p, .int st, .int (c : Nat)] ∧ SqL K H p (ps.map V.int) ∧ 0 ≤ st ∧ st + c ≤ ps.length ∧ c ≤ 12 ∧
  ∀ D ys H', Same H H' → H D = none → H' D = some (.lst (ivs ys)) → ys.length = c → Yrs ys → Q (.ref D) H'
theorem ok_steps (T : Txt P K mg A) : FnOk P w K mg base CX0 1 A.a_law_steps A.d_law_steps ["pool", "start", "count"] (spSteps K) := by
  refine T.F_law_steps.ok sc_law_steps (fun vs H Q E h => ?_) (fun cdv A' outer s H vs Q E hr h => ?_)
  · obtain ⟨p, ps, st, c, rfl, _⟩ := h
    rfl
  · obtain ⟨p, ps, st, c, rfl, hP, h0, hl, hc, k⟩ := h
    refine ⟨_, (pss_cons (ps_set (i := 3) sc_law_steps.nd rfl (Or.inl rfl) (pe_lst (pa_cons pe_int (pa_cons pe_int (pa_cons pe_int (pa_cons pe_int (pa_cons pe_int (pa_cons pe_int (pa_cons pe_int (pa_cons pe_int (pa_cons pe_int (pa_cons pe_int (pa_cons pe_int (pa_cons pe_int pa_nil))))))))))))))
      (pss_cons (ps_set (i := 4) sc_law_steps.nd rfl (Or.inl rfl) (pe_lst pa_nil))
      (pss_cons (ps_set (i := 5) sc_law_steps.nd rfl (Or.inl rfl) pe_int)
      (pss_cons (ps_for PassesOwn.never rfl (pi_range1 (by rfl) T.n_range (pa_cons (pv 2) pa_nil)) (pg_name (i := 6) sc_law_steps.nd rfl (Or.inl rfl))
        (pss_cons (ps_expr (pe_bm PySem.F.plainAttrs_list PySem.F.slot_list_append PySem.F.type_list_append mt_append (pv 4) (pa_cons (pv 5) pa_nil)))
      (pss_one (ps_set (i := 5) sc_law_steps.nd rfl (Or.inl rfl) (pe_op op_add (pv 5) (pe_ix ix_list (pv 3) (pe_op op_mod (pe_callTy call_int1 (by rfl) T.n_int (by decide +kernel) (pa_cons (pe_ix ix_list (pv 0) (pe_op op_add (pv 1) (pv 6)) (fun _ _ => rfl)) pa_nil)) pe_int) (fun _ _ => rfl)))))))
      (pss_one (ps_ret (pv 4))))))), ?_⟩
    refine ⟨by show 12 ≤ sizeLine; decide, fun m hm => ?_⟩
    have s1 := same_new (o := .lst (stepsM.map V.int)) hm
    have hm1 := upd_same (H := H) (a := m) (o := .lst (stepsM.map V.int))
    refine ⟨by show 0 ≤ sizeLine; decide, fun D hD => ?_⟩
    have hmD : m ≠ D := ne_of_none hm1 hD
    have s2 := s1.trans (same_new (o := .lst []) hD)
    have hDn : H D = none := none_of s1 hD
    refine ⟨_, rfl, _, rfl, by omega, by omega, for_range (n := ((c : Nat) : Int).toNat) (fun i σ H2 => Same H H2 ∧ ∃ (ys : List Int) (now : Int) (u : Option V), σ = [some (.ref p), some (.int st), some (.int (c : Nat)), some (.ref m), some (.ref D), some (.int now), u] ∧ H2 m = some (.lst (stepsM.map V.int)) ∧ H2 D = some (.lst (ivs ys)) ∧ ys.length = i ∧ Yrs ys ∧ (∀ y ∈ ys, y ≤ now) ∧ 0 ≤ now ∧ now ≤ 90000 * (i : Int))
      ⟨s2, [], 0, none, rfl, by rw [upd_ne hmD]; exact hm1, upd_same, rfl, ⟨List.Pairwise.nil, (fun y h => nomatch h), (fun y h => nomatch h)⟩, (fun y h => nomatch h), by decide, by decide⟩ ?_ ?_⟩
    · rintro i σ H2 hi ⟨sm, ys, now, u, rfl, h2m, h2, hyl, hY, hn, h0n, hn9⟩
      obtain ⟨v, hv, e⟩ := atI_ok (xs := ps) (j := st + (0 + (i : Int))) (by omega) (by omega)
      have m0 := Int.emod_nonneg v (show (12 : Int) ≠ 0 by decide)
      have m1 := Int.emod_lt_of_pos v (show (0 : Int) < 12 by decide)
      obtain ⟨g, hg, eg⟩ := atI_ok (xs := stepsM) (j := v % 12) m0 (by show v % 12 < 12; exact m1)
      have hg9 := stepsM_le g hg
      refine ⟨_, rfl, .inl ⟨rfl, _, SqL.of h2⟩, _, rfl, D, _, _, rfl, rfl, h2, small_int (by rw [List.length_map]; omega), ?_⟩
      have hm3 : upd H2 D (.lst (ivs ys ++ [V.int now])) m = some (.lst (stepsM.map V.int)) := by rw [upd_ne hmD]; exact h2m
      have s3 : Same H (upd H2 D (.lst (ivs ys ++ [V.int now]))) := fun x u e => by rw [upd_ne (ne_of_none e hDn)]; exact sm _ _ e
      have hd3 := upd_same (H := H2) (a := D) (o := .lst (ivs ys ++ [V.int now]))
      generalize upd H2 D _ = H3 at hm3 s3 hd3 ⊢
      refine ⟨_, rfl, _, rfl, _, rfl, _, rfl, _, rfl, _, _, rfl, rfl, p, _, _, _, rfl, rfl, s3.seq hP, e, .inl ⟨_, rfl, _, _, rfl, rfl, by show (0 : Int) < 12; decide, m, _, _, _, rfl, rfl, SqL.of hm3, eg, ?_⟩⟩
      refine ⟨_, _, rfl, rfl, s3, ys ++ [now], _, _, rfl, hm3, by rw [hd3]; show _ = some (HO.lst ((ys ++ [now]).map V.int)); rw [List.map_append]; rfl, by rw [List.length_append, hyl]; rfl, ⟨?_, ?_, ?_⟩, ?_, by omega, by push_cast; omega⟩
      · rw [List.pairwise_append]
        exact ⟨hY.up, by simp, fun a ha b hb => by rw [List.mem_singleton.mp hb]; exact hn a ha⟩
      · intro y hy
        rcases List.mem_append.mp hy with h | h
        · exact hY.lo y h
        · rw [List.mem_singleton.mp h]; exact h0n
      · intro y hy
        rw [List.length_append, hyl]
        show y + 90000 ≤ 90000 * ((i + 1 : Nat) : Int)
        rcases List.mem_append.mp hy with h | h
        · have := hn y h; omega
        · rw [List.mem_singleton.mp h]; omega
      · intro y hy
        rcases List.mem_append.mp hy with h | h
        · have := hn y h; omega
        · rw [List.mem_singleton.mp h]; omega
    · rintro σ H2 ⟨sm, ys, now, u, rfl, h2m, h2, hyl, hY, _⟩
      exact ⟨_, rfl, k D ys H2 sm hDn h2 (by omega) hY⟩
end
end My
set_option maxRecDepth 100000
set_option maxHeartbeats 4000000
namespace My
open PySem L2
/-! ### rows on a ring: the numbers of runs, read round -/
def b2 (b : Bool) : Nat := if b = true then 1 else 0
/-- how often a true stands behind a false, p ahead -/
def tr (p : Bool) : List Bool → Nat
  | [] => 0
  | b :: t => b2 (b && !p) + tr b t
def lastB (p : Bool) : List Bool → Bool
  | [] => p
  | b :: t => lastB b t
/-- read round -/
def rsn (l : List Bool) : Nat := tr (lastB false l) l
theorem lastB_any {l : List Bool} (h : l ≠ []) (p q : Bool) : lastB p l = lastB q l := by
  cases l with
  | nil => exact absurd rfl h
  | cons b t => rfl
theorem lastB_app (p : Bool) (a b : List Bool) : lastB p (a ++ b) = lastB (lastB p a) b := by
  induction a generalizing p with
  | nil => rfl
  | cons x t ih => exact ih x
theorem tr_app (p : Bool) (a b : List Bool) : tr p (a ++ b) = tr p a + tr (lastB p a) b := by
  induction a generalizing p with
  | nil => simp [tr, lastB]
  | cons x t ih =>
    show b2 (x && !p) + tr x (t ++ b) = b2 (x && !p) + tr x t + tr (lastB x t) b
    rw [ih]; omega
theorem rsn_rot (a b : List Bool) : rsn (a ++ b) = rsn (b ++ a) := by
  by_cases ha : a = []
  · subst ha; rw [List.append_nil]; rfl
  by_cases hb : b = []
  · subst hb; rw [List.append_nil]; rfl
  unfold rsn
  rw [lastB_app, lastB_app, lastB_any hb (lastB false a) false, lastB_any ha (lastB false b) false, tr_app, tr_app, lastB_any ha (lastB false b) false, lastB_any hb (lastB false a) false]
  omega
theorem tr_not (p : Bool) (l : List Bool) : tr p l + b2 p = tr (!p) (l.map not) + b2 (lastB p l) := by
  induction l generalizing p with
  | nil => rfl
  | cons b t ih =>
    have := ih b
    show b2 (b && !p) + tr b t + b2 p = b2 (!b && !!p) + tr (!b) (t.map not) + b2 (lastB b t)
    have e : b2 (b && !p) + b2 p = b2 (!b && !!p) + b2 b := by cases b <;> cases p <;> rfl
    omega
theorem lastB_not (p : Bool) (l : List Bool) : lastB (!p) (l.map not) = !lastB p l := by
  induction l generalizing p with
  | nil => rfl
  | cons b t ih => exact ih b
theorem rsn_not (l : List Bool) : rsn (l.map not) = rsn l := by
  by_cases h : l = []
  · subst h; rfl
  have h2 : l.map not ≠ [] := fun e => h (List.map_eq_nil_iff.mp e)
  unfold rsn
  have e1 : lastB false (l.map not) = !lastB false l := by rw [lastB_any h2 false (!false), lastB_not]
  have := tr_not (lastB false l) l
  rw [lastB_any h (lastB false l) false] at this
  rw [e1]
  omega
theorem tr_false {l : List Bool} (h : tr false l = 0) : ∀ x ∈ l, x = false := by
  induction l with
  | nil => intro x hx; cases hx
  | cons b t ih =>
    have h : b2 (b && !false) + tr b t = 0 := h
    have hb : b = false := by
      cases b with
      | false => rfl
      | true => exact absurd h (by show ¬ (1 + tr true t = 0); omega)
    subst hb
    intro x hx
    rcases List.mem_cons.mp hx with e | e
    · exact e
    · exact ih (by have : tr false t = 0 := by omega
                   exact this) x e
theorem lastB_mem (p : Bool) (l : List Bool) (h : ∀ x ∈ l, x = false) (hl : l ≠ [] ∨ p = false) : lastB p l = false := by
  induction l generalizing p with
  | nil => exact hl.elim (fun e => absurd rfl e) id
  | cons b t ih => exact ih b (fun x hx => h x (List.mem_cons_of_mem _ hx)) (.inr (h b List.mem_cons_self))
theorem tr_true {l : List Bool} (h : tr true l = 0) (hl : lastB true l = true) : ∀ x ∈ l, x = true := by
  induction l with
  | nil => intro x hx; cases hx
  | cons b t ih =>
    have h : b2 (b && !true) + tr b t = 0 := h
    cases b with
    | true =>
      intro x hx
      rcases List.mem_cons.mp hx with e | e
      · exact e
      · exact ih (by omega) hl x e
    | false =>
      have h0 : tr false t = 0 := by omega
      have : lastB false t = false := lastB_mem false t (tr_false h0) (.inr rfl)
      have hl : lastB false t = true := hl
      rw [this] at hl; cases hl
theorem tr_le (p : Bool) (l : List Bool) (h : ∀ x ∈ l, x = false) : tr p l = 0 := by
  induction l generalizing p with
  | nil => rfl
  | cons b t ih =>
    show b2 (b && !p) + tr b t = 0
    rw [h b List.mem_cons_self, ih false fun x hx => h x (List.mem_cons_of_mem _ hx)]; rfl
theorem tr_all (l : List Bool) (h : ∀ x ∈ l, x = true) : tr true l = 0 ∧ lastB true l = true := by
  induction l with
  | nil => exact ⟨rfl, rfl⟩
  | cons b t ih =>
    have e := h b List.mem_cons_self
    subst e
    have := ih fun x hx => h x (List.mem_cons_of_mem _ hx)
    exact ⟨by show b2 (true && !true) + tr true t = 0; rw [this.1]; rfl, this.2⟩
/-- counted place by place -/
def cnt (p : Bool) (l : List Bool) : List Nat := (List.range l.length).filter fun i => l.getD i false && !(if i = 0 then p else l.getD (i - 1) false)
theorem cnt_tr (p : Bool) (l : List Bool) : (cnt p l).length = tr p l := by
  induction l generalizing p with
  | nil => rfl
  | cons b t ih =>
    show ((List.range (t.length + 1)).filter _).length = b2 (b && !p) + tr b t
    rw [List.range_succ_eq_map, List.filter_cons, List.filter_map, ← ih b]
    have e : (List.filter ((fun i => (b :: t).getD i false && !(if i = 0 then p else (b :: t).getD (i - 1) false)) ∘ Nat.succ) (List.range t.length)) = cnt b t := by
      unfold cnt
      refine List.filter_congr fun i hi => ?_
      show (t.getD i false && !((b :: t).getD i false)) = (t.getD i false && !(if i = 0 then b else t.getD (i - 1) false))
      cases i with
      | zero => rfl
      | succ i => rfl
    rw [e]
    have e2 : ((b :: t).getD 0 false && !(if 0 = 0 then p else (b :: t).getD (0 - 1) false)) = (b && !p) := rfl
    rw [e2]
    cases hb : (b && !p) with
    | true =>
      rw [if_pos rfl, List.length_cons, List.length_map]
      show _ = 1 + _
      omega
    | false =>
      rw [if_neg (by decide), List.length_map]
      show _ = 0 + _
      omega
theorem runs_tr (l : List Bool) : runs l = tr false l := by
  rw [← cnt_tr]
  unfold runs cnt
  congr 1
  refine List.filter_congr fun i _ => ?_
  unfold runAt
  cases i with
  | zero => rfl
  | succ i => simp
theorem ring_core (l : List Bool) : (decide (runs l ≤ 1) || decide (runs (l.map not) ≤ 1)) = decide (rsn l ≤ 1) := by
  cases l with
  | nil => rfl
  | cons b t =>
    have h1 : runs (b :: t) = b2 (b && !false) + tr b t := by rw [runs_tr]; rfl
    have h2 : runs ((b :: t).map not) = b2 (!b && !false) + tr (!b) (t.map not) := by rw [runs_tr]; rfl
    have h3 : rsn (b :: t) = b2 (b && !lastB b t) + tr b t := rfl
    have h4 : rsn ((b :: t).map not) = b2 (!b && !lastB (!b) (t.map not)) + tr (!b) (t.map not) := rfl
    rw [rsn_not, lastB_not] at h4
    rw [h1, h2]
    rw [Bool.eq_iff_iff, Bool.or_eq_true, decide_eq_true_iff, decide_eq_true_iff, decide_eq_true_iff]
    cases b <;> cases hl : lastB _ t <;> rw [hl] at h3 h4 <;> simp [b2] at h3 h4 ⊢ <;> omega
theorem filt_all {p : Nat → Bool} {l : List Nat} : (l.filter p).length = l.length ↔ ∀ x ∈ l, p x = true := by
  induction l with
  | nil => simp
  | cons a t ih =>
    have := List.length_filter_le p t
    cases hp : p a with
    | true => rw [List.filter_cons_of_pos hp]; simp [hp, ih]
    | false =>
      rw [List.filter_cons_of_neg (by rw [hp]; decide)]
      constructor
      · intro h; rw [List.length_cons] at h; omega
      · intro h; rw [h a List.mem_cons_self] at hp; cases hp
/-- the ring's own question: all, none, or one start -/
theorem ring_ask (l : List Bool) : (decide ((((List.range l.length).filter fun i => l.getD i false)).length = 0) || (decide ((((List.range l.length).filter fun i => l.getD i false)).length = l.length) || decide ((cnt (l.getD (l.length - 1) false) l).length = 1))) = decide (rsn l ≤ 1) := by
  have hlast : l.getD (l.length - 1) false = lastB false l := by
    have : ∀ (l : List Bool) (p : Bool), (l.getD (l.length - 1) p) = lastB p l := by
      intro l
      induction l with
      | nil => intro p; rfl
      | cons b t ih =>
        intro p
        cases t with
        | nil => rfl
        | cons c u =>
          have := ih b
          show (b :: c :: u).getD (u.length + 1) p = lastB b (c :: u)
          rw [← this]
          show (b :: c :: u).getD (u.length + 1) p = (c :: u).getD u.length b
          rw [List.getD_cons_succ, List.getD_eq_getElem?_getD, List.getD_eq_getElem?_getD, List.getElem?_eq_getElem (by simp)]
          rfl
    exact this l false
  rw [hlast, cnt_tr]
  have h0 : ((List.range l.length).filter fun i => l.getD i false).length = 0 ↔ ∀ x ∈ l, x = false := by
    rw [List.length_eq_zero_iff, List.filter_eq_nil_iff]
    constructor
    · intro h x hx
      obtain ⟨i, hi, rfl⟩ := List.getElem_of_mem hx
      have := h i (List.mem_range.mpr hi)
      rw [List.getD_eq_getElem?_getD, List.getElem?_eq_getElem hi] at this
      simpa using this
    · intro h i hi
      have hi := List.mem_range.mp hi
      rw [List.getD_eq_getElem?_getD, List.getElem?_eq_getElem hi]
      simp [h _ (List.getElem_mem hi)]
  have h1 : ((List.range l.length).filter fun i => l.getD i false).length = l.length ↔ ∀ x ∈ l, x = true := by
    constructor
    · intro h x hx
      obtain ⟨i, hi, rfl⟩ := List.getElem_of_mem hx
      have e := filt_all.mp (h.trans List.length_range.symm) i (List.mem_range.mpr hi)
      rw [List.getD_eq_getElem?_getD, List.getElem?_eq_getElem hi] at e
      exact e
    · intro h
      refine (filt_all.mpr fun i hi => ?_).trans List.length_range
      have hi := List.mem_range.mp hi
      rw [List.getD_eq_getElem?_getD, List.getElem?_eq_getElem hi]
      exact h _ (List.getElem_mem hi)
  rw [Bool.eq_iff_iff, Bool.or_eq_true, Bool.or_eq_true, decide_eq_true_iff, decide_eq_true_iff, decide_eq_true_iff, decide_eq_true_iff, h0, h1]
  constructor
  · rintro (h | h | h)
    · unfold rsn; rw [tr_le _ _ h]; decide
    · by_cases e : l = []
      · subst e; decide
      · unfold rsn
        rw [lastB_any e false true, (tr_all l h).2, (tr_all l h).1]; decide
    · show tr _ l ≤ 1
      omega
  · intro h
    rcases Nat.lt_or_ge (rsn l) 1 with c | c
    · have c : tr (lastB false l) l = 0 := by unfold rsn at c; omega
      cases hp : lastB false l with
      | false => rw [hp] at c; exact .inl (tr_false c)
      | true =>
        rw [hp] at c
        by_cases e : l = []
        · subst e; cases hp
        · exact .inr (.inl (tr_true c (by rw [lastB_any e true false]; exact hp)))
    · exact .inr (.inr (by unfold rsn at h c; omega))
/-- cut open behind c -/
theorem ring_cut (a b : List Bool) (c : Bool) : runs ((b ++ a).map fun x => x != c) = rsn (a ++ c :: b) := by
  have e : rsn (a ++ c :: b) = rsn (c :: (b ++ a)) := by rw [rsn_rot a (c :: b)]; rfl
  rw [e, runs_tr]
  cases c with
  | false =>
    have : ((b ++ a).map fun x => x != false) = b ++ a := by
      conv => rhs; rw [← List.map_id (b ++ a)]
      exact List.map_congr_left fun x _ => by cases x <;> rfl
    rw [this]
    show _ = b2 (false && _) + tr false (b ++ a)
    simp [b2]
  | true =>
    have : ((b ++ a).map fun x => x != true) = (b ++ a).map not := List.map_congr_left fun x _ => by cases x <;> rfl
    rw [this, ← rsn_not]
    show _ = b2 (!true && _) + tr (!true) ((b ++ a).map not)
    simp [b2]
end My
set_option maxRecDepth 100000
set_option maxHeartbeats 4000000
namespace My
open PySem L2
/-! ### the places of a row in an order, and whether it is unbroken -/
def plc (l : List Bool) : List Nat := (List.range l.length).filter fun i => l.getD i false
theorem plc_cons (b : Bool) (t : List Bool) : plc (b :: t) = (if b = true then [0] else []) ++ (plc t).map Nat.succ := by
  unfold plc
  rw [List.length_cons, List.range_succ_eq_map, List.filter_cons, List.filter_map]
  have e : (fun i => (b :: t).getD i false) ∘ Nat.succ = fun i => t.getD i false := by
    funext i; rfl
  rw [e]
  have e0 : (b :: t).getD 0 false = b := rfl
  rw [e0]
  cases b <;> rfl
def lastT : List Bool → Option Nat
  | [] => none
  | b :: t => match lastT t with
    | some g => some (g + 1)
    | none => if b = true then some 0 else none
theorem plc_last (l : List Bool) : (plc l).getLast? = lastT l := by
  induction l with
  | nil => rfl
  | cons b t ih =>
    rw [plc_cons]
    unfold lastT
    rw [← ih]
    cases h : (plc t).getLast? with
    | none =>
      rw [List.getLast?_eq_none_iff.mp h]
      cases b <;> rfl
    | some g =>
      obtain ⟨ys, e⟩ := List.getLast?_eq_some_iff.mp h
      rw [e, List.map_append, ← List.append_assoc]
      exact List.getLast?_concat
theorem last_ge {l : List Bool} {g : Nat} (h : lastT l = some g) : (plc l).length ≤ g + 1 := by
  induction l generalizing g with
  | nil => cases h
  | cons b t ih =>
    rw [plc_cons, List.length_append, List.length_map]
    have hb : (if b = true then [0] else ([] : List Nat)).length ≤ 1 := by cases b <;> decide
    unfold lastT at h
    cases ht : lastT t with
    | some g' =>
      rw [ht] at h
      have := ih ht
      have h : some (g' + 1) = some g := h
      have := Option.some.inj h
      omega
    | none =>
      have e : (plc t).getLast? = none := by rw [plc_last]; exact ht
      rw [List.getLast?_eq_none_iff.mp e]
      show _ + 0 ≤ _
      omega
theorem none_false {l : List Bool} (h : lastT l = none) : ∀ x ∈ l, x = false := by
  induction l with
  | nil => intro x hx; cases hx
  | cons b t ih =>
    unfold lastT at h
    cases ht : lastT t with
    | some g => rw [ht] at h; cases h
    | none =>
      rw [ht] at h
      have hb : b = false := by
        cases b with
        | false => rfl
        | true => cases h
      intro x hx
      rcases List.mem_cons.mp hx with e | e
      · rw [e]; exact hb
      · exact ih ht x e
theorem unb_true (t : List Bool) {g : Nat} (h : lastT (true :: t) = some g) : g + 1 = (plc (true :: t)).length ↔ tr true t = 0 := by
  induction t generalizing g with
  | nil =>
    have : g = 0 := (Option.some.inj h).symm
    subst this
    exact ⟨fun _ => rfl, fun _ => rfl⟩
  | cons b t ih =>
    have h' : (match lastT (b :: t) with | some g => some (g + 1) | none => some 0) = some g := h
    rw [plc_cons, List.length_append, List.length_map]
    show g + 1 = 1 + _ ↔ _
    cases b with
    | true =>
      have : ∃ g', lastT (true :: t) = some g' := by
        unfold lastT
        cases lastT t with
        | none => exact ⟨0, rfl⟩
        | some g => exact ⟨g + 1, rfl⟩
      obtain ⟨g', e⟩ := this
      rw [e] at h'
      have hg : g' + 1 = g := Option.some.inj h'
      have := ih e
      have e2 : tr true (true :: t) = tr true t := by show b2 (true && !true) + tr true t = _; simp [b2]
      rw [e2, ← this]
      omega
    | false =>
      have e2 : tr true (false :: t) = tr false t := by show b2 (false && !true) + tr false t = _; simp [b2]
      rw [e2]
      have ep : (plc (false :: t)).length = (plc t).length := by rw [plc_cons, List.length_append, List.length_map]; simp
      rw [ep]
      have el : lastT (false :: t) = (lastT t).map (· + 1) := by
        show (match lastT t with | some g => some (g + 1) | none => if false = true then some 0 else none) = _
        cases lastT t <;> rfl
      rw [el] at h'
      cases ht : lastT t with
      | none =>
        rw [ht] at h'
        have hg : g = 0 := (Option.some.inj h').symm
        have e0 : plc t = [] := List.getLast?_eq_none_iff.mp (by rw [plc_last]; exact ht)
        rw [e0, hg]
        exact ⟨fun _ => tr_le _ _ (none_false ht), fun _ => rfl⟩
      | some g' =>
        rw [ht] at h'
        have hg : g' + 1 + 1 = g := Option.some.inj h'
        have := last_ge ht
        constructor
        · intro e; omega
        · intro e
          have hf := tr_false e
          have e0 : plc t = [] := by
            unfold plc
            rw [List.filter_eq_nil_iff]
            intro i hi
            have hi := List.mem_range.mp hi
            rw [List.getD_eq_getElem?_getD, List.getElem?_eq_getElem hi]
            simp [hf _ (List.getElem_mem hi)]
          have : (plc t).getLast? = some g' := by rw [plc_last]; exact ht
          rw [e0] at this; cases this
/-- no place, or as many as from the first to the last -/
theorem unb (l : List Bool) : (∀ f g, (plc l).head? = some f → (plc l).getLast? = some g → g - f + 1 = (plc l).length) ↔ runs l ≤ 1 := by
  induction l with
  | nil => exact ⟨fun _ => by decide, fun _ f g h => by cases h⟩
  | cons b t ih =>
    cases b with
    | false =>
      have e1 : plc (false :: t) = (plc t).map Nat.succ := by rw [plc_cons]; rfl
      have e2 : runs (false :: t) = runs t := by rw [runs_tr, runs_tr]; show b2 (false && !false) + tr false t = _; simp [b2]
      rw [e2, ← ih, e1]
      constructor
      · intro h f g hf hg
        have := h (f + 1) (g + 1) (by rw [List.head?_map, hf]; rfl) (by rw [List.getLast?_map, hg]; rfl)
        rw [List.length_map] at this
        omega
      · intro h f g hf hg
        rw [List.head?_map] at hf
        rw [List.getLast?_map] at hg
        cases hf' : (plc t).head? with
        | none => rw [hf'] at hf; cases hf
        | some f' =>
          cases hg' : (plc t).getLast? with
          | none => rw [hg'] at hg; cases hg
          | some g' =>
            rw [hf'] at hf; rw [hg'] at hg
            have a : f' + 1 = f := Option.some.inj hf
            have c : g' + 1 = g := Option.some.inj hg
            have := h f' g' hf' hg'
            rw [List.length_map]
            omega
    | true =>
      have e1 : plc (true :: t) = 0 :: (plc t).map Nat.succ := by rw [plc_cons]; rfl
      have e2 : runs (true :: t) = 1 + tr true t := by rw [runs_tr]; rfl
      have : ∃ g, lastT (true :: t) = some g := by
        unfold lastT
        cases lastT t with
        | none => exact ⟨0, rfl⟩
        | some g => exact ⟨g + 1, rfl⟩
      obtain ⟨g, hg⟩ := this
      have u := unb_true t hg
      have hl : (plc (true :: t)).getLast? = some g := by rw [plc_last]; exact hg
      have hf : (plc (true :: t)).head? = some 0 := by rw [e1]; rfl
      rw [e2]
      constructor
      · intro h
        have := u.mp (by have := h 0 g hf hl; omega)
        omega
      · intro h f g' hf' hg'
        rw [hf] at hf'; rw [hl] at hg'
        cases hf'; cases hg'
        have := u.mpr (by omega)
        omega
end My
set_option maxRecDepth 100000
set_option maxHeartbeats 4000000
set_option exponentiation.threshold 10000
namespace My
open PySem L2
theorem flags_len (ns r : List Str) : (flags ns r).length = ns.length := by unfold flags; rw [List.length_map]
theorem flag_of {ns r : List Str} {i : Nat} {z : Str} (h : ns[i]? = some z) : (flags ns r).getD i false = decide (z ∈ r) := by
  unfold flags
  rw [List.getD_eq_getElem?_getD, List.getElem?_map, h]; rfl
abbrev nv (l : List Nat) : List V := l.map fun n => V.int ((n : Nat) : Int)
theorem last_at {xs : List V} {v : V} (h : xs.getLast? = some v) : atI xs (-1) = some v := by
  obtain ⟨ys, rfl⟩ := List.getLast?_eq_some_iff.mp h
  exact atI_last ys v
theorem plc_lt {l : List Bool} {g : Nat} (h : g ∈ plc l) : g < l.length := List.mem_range.mp (List.mem_filter.mp h).1
theorem plc_ends {l : List Bool} (h : plc l ≠ []) : ∃ f g, (plc l).head? = some f ∧ (plc l).getLast? = some g ∧ f ≤ g ∧ g < l.length := by
  have hp : (plc l).Pairwise (· < ·) := List.Pairwise.filter _ List.pairwise_lt_range
  cases e : plc l with
  | nil => exact absurd e h
  | cons a t =>
    cases hg : (a :: t).getLast? with
    | none => rw [List.getLast?_eq_none_iff] at hg; cases hg
    | some g =>
      have hm : g ∈ a :: t := List.mem_of_getLast? hg
      refine ⟨a, g, rfl, rfl, ?_, plc_lt (by rw [e]; exact hm)⟩
      rw [e] at hp
      rcases List.mem_cons.mp hm with h1 | h1
      · omega
      · exact Nat.le_of_lt ((List.pairwise_cons.mp hp).1 g h1)
section
variable {P : Program} {w : World} {K : PySem.W.Frag} {mg : Str → Option Value} {base : Heap} {A : Ad}
def spLUnb (K : PySem.W.Frag) : Sp := fun vs H Q _ => ∃ o r ns rr, vs = [.ref o, .ref r] ∧ SqL K H o (sv ns) ∧ SqA K H r (sv rr) ∧ ns.length ≤ 1000 ∧ ∀ H', Same H H' → Q (.bl (decide (runs (flags ns rr) ≤ 1))) H'
theorem ok_lunb (T : Txt P K mg A) : FnOk P w K mg base CX0 1 A.a_law_unbroken A.d_law_unbroken ["order", "row"] (spLUnb K) := by
  refine T.F_law_unbroken.ok sc_law_unbroken (fun vs H Q E h => ?_) (fun cdv A' outer s H vs Q E hr h => ?_)
  · obtain ⟨o, r, ns, rr, rfl, _⟩ := h
    rfl
  · obtain ⟨o, r, ns, rr, rfl, hO, hR, hl, k⟩ := h
    refine ⟨_, (pss_cons (ps_setLc (i := 2) (own := [("k", 3)]) (g := gName 3) (tt := _) rfl sc_law_unbroken.nd rfl rfl (sw_true rfl rfl rfl (by decide +kernel)) (pi_range1 (by rfl) T.n_range (pa_cons (pe_callB call_len_seq (by rfl) T.n_len (by decide +kernel) (pa_cons (pv 0) pa_nil)) pa_nil)) (blkOk_by (N := ["order", "row", "places", "k"]) (sc := defScope s_law_unbroken) (by decide +kernel)) (fun _ _ _ _ _ => (pg_name (i := 3) sc_law_unbroken.nd rfl (Or.inl rfl))) (fun _ _ _ _ _ => (pts_one (pt_cmpR (show OpR _ _ (rIn K false) from op_in_seq) (pe_ix (show IxR _ (rIxL K) from ix_list) (pv 0) (pv 3) (fun _ _ => rfl)) (pv 1) (by with_unfolding_all rfl)))) (fun _ _ _ _ _ => (pv 3)))
      (pss_one (ps_ret (pe_or (pe_cmpR op_eq (pe_callB call_len_seq (by rfl) T.n_len (by decide +kernel) (pa_cons (pv 2) pa_nil)) pe_int (nomark _)) (pe_one (pe_cmpR op_eq (pe_op op_add (pe_op op_sub (pe_ix ix_list (pv 2) (pe_un un_neg pe_int) (fun _ _ => rfl)) (pe_ix ix_list (pv 2) pe_int (fun _ _ => rfl))) pe_int) (pe_callB call_len_seq (by rfl) T.n_len (by decide +kernel) (pa_cons (pv 2) pa_nil)) (nomark _))))))), ?_⟩
    have e1 : (((sv ns).length : Nat) : Int).toNat = ns.length := by rw [len_sv, Int.toNat_natCast]
    have iv : ∀ l : List Nat, (nv l).length = l.length := fun l => List.length_map ..
    refine ⟨_, rfl, o, _, rfl, .inl hO, _, rfl, by rw [len_sv]; omega, by rw [len_sv]; omega, fun D hD => lc_range (n := (((sv ns).length : Nat) : Int).toNat) (PvS H D fun i => nv ((List.range i).filter fun i => (flags ns rr).getD i false)) (pv0 hD rfl) ?_ ?_⟩
    · rintro i H3 hi q
      rw [e1] at hi
      have hz : ns[i]? = some ns[i] := List.getElem?_eq_getElem hi
      have ej : atI (sv ns) (0 + (i : Int)) = some (V.str ns[i]) := by rw [Int.zero_add]; exact atI_nat (by rw [List.getElem?_map, hz]; rfl)
      refine ⟨rfl, _, rfl, _, rfl, o, _, _, _, rfl, rfl, q.1.seq hO, ej, _, rfl, r, _, rfl, q.1.sqa hR, rfl, flat_sv _, _, rfl, ?_⟩
      rw [if_neg Bool.false_ne_true, inV_str, ← flag_of hz]
      have hlen : (nv ((List.range i).filter fun i => (flags ns rr).getD i false)).length ≤ 1000000 := by
        have := List.length_filter_le (fun i => (flags ns rr).getD i false) (List.range i)
        rw [List.length_range] at this
        rw [iv]; omega
      cases hb : (flags ns rr).getD i false with
      | true =>
        refine ifT rfl ⟨_, rfl, ?_⟩
        refine q.push hD ?_ hlen
        show nv ((List.range (i + 1)).filter _) = _
        unfold nv
        rw [List.range_succ, List.filter_append, List.map_append, List.filter_cons_of_pos (p := fun i => (flags ns rr).getD i false) (a := i) (l := []) hb, Int.zero_add]; rfl
      | false =>
        refine ifF rfl (q.skip ?_)
        show nv ((List.range (i + 1)).filter _) = _
        unfold nv
        rw [List.range_succ, List.filter_append, List.map_append, List.filter_cons_of_neg (p := fun i => (flags ns rr).getD i false) (a := i) (l := []) (by rw [hb]; decide)]; simp
    · rintro H3 ⟨s3, h3⟩
      rw [e1] at h3
      have h3 : H3 D = some (.lst (nv (plc (flags ns rr)))) := by unfold plc; rw [flags_len]; exact h3
      have K3 := k H3 s3
      refine ⟨_, rfl, D, _, rfl, .inl (SqL.of h3), rfl, ?_⟩
      rw [iv]
      by_cases h0 : plc (flags ns rr) = []
      · have e : decide (runs (flags ns rr) ≤ 1) = true := decide_eq_true ((unb _).mp fun f g hf => by rw [h0] at hf; cases hf)
        rw [e] at K3
        rw [h0]
        exact ⟨_, rfl, ifT rfl K3⟩
      · obtain ⟨f, g, hf, hg, hfg, hgl⟩ := plc_ends h0
        have hp : 0 < (plc (flags ns rr)).length := List.length_pos_iff.mpr h0
        have e : decide (runs (flags ns rr) ≤ 1) = decide (V.int ((g : Int) - (f : Int) + 1) = V.int ((plc (flags ns rr)).length : Int)) := decide_eq_decide.mpr (by
          rw [← unb]
          constructor
          · intro h; have := h f g hf hg; congr 1; omega
          · intro h f' g' hf' hg'
            rw [hf] at hf'; rw [hg] at hg'
            cases hf'; cases hg'
            have := V.int.inj h
            omega)
        rw [e] at K3
        have ag : atI (nv (plc (flags ns rr))) (-1) = some (V.int ((g : Nat) : Int)) := last_at (by rw [List.getLast?_map, hg]; rfl)
        have af : atI (nv (plc (flags ns rr))) 0 = some (V.int ((f : Nat) : Int)) := atI_nat (j := 0) (by rw [List.getElem?_map, ← List.head?_eq_getElem?, hf]; rfl)
        refine ⟨_, rfl, ifF (iNe (by omega)) ?_⟩
        refine ⟨_, rfl, _, rfl, D, _, _, _, rfl, rfl, SqL.of h3, ag, _, rfl, D, _, _, _, rfl, rfl, SqL.of h3, af, _, _, rfl, rfl, _, _, rfl, rfl, _, rfl, D, _, rfl, .inl (SqL.of h3), rfl, ?_⟩
        rw [iv]
        exact K3
end
end My
set_option maxRecDepth 100000
set_option maxHeartbeats 4000000
set_option exponentiation.threshold 10000
namespace My
open PySem L2
section
variable {P : Program} {w : World} {K : PySem.W.Frag} {mg : Str → Option Value} {base : Heap} {A : Ad}
/-- the years between a row's first and last place -/
def spLTime (K : PySem.W.Frag) : Sp := fun vs H Q _ => ∃ o y r ns rr, ∃ ys : List Int, vs = [.ref o, .ref y, .ref r] ∧ SqL K H o (sv ns) ∧ SqL K H y (ivs ys) ∧ SqA K H r (sv rr) ∧ ns.length ≤ 1000 ∧ ns.length ≤ ys.length ∧ plc (flags ns rr) ≠ [] ∧
  ∀ f g a b H', (plc (flags ns rr)).head? = some f → (plc (flags ns rr)).getLast? = some g → ys[f]? = some a → ys[g]? = some b → Same H H' → Q (.int (b - a)) H'
theorem ok_ltime (T : Txt P K mg A) : FnOk P w K mg base CX0 1 A.a_law_time A.d_law_time ["order", "years", "row"] (spLTime K) := by
  refine T.F_law_time.ok sc_law_time (fun vs H Q E h => ?_) (fun cdv A' outer s H vs Q E hr h => ?_)
  · obtain ⟨o, y, r, ns, rr, ys, rfl, _⟩ := h
    rfl
  · obtain ⟨o, y, r, ns, rr, ys, rfl, hO, hY, hR, hl, hly, hne, k⟩ := h
    refine ⟨_, (pss_cons (ps_setLc (i := 3) (own := [("k", 4)]) (g := gName 4) (tt := _) rfl sc_law_time.nd rfl rfl (sw_true rfl rfl rfl (by decide +kernel)) (pi_range1 (by rfl) T.n_range (pa_cons (pe_callB call_len_seq (by rfl) T.n_len (by decide +kernel) (pa_cons (pv 0) pa_nil)) pa_nil)) (blkOk_by (N := ["order", "years", "row", "places", "k"]) (sc := defScope s_law_time) (by decide +kernel)) (fun _ _ _ _ _ => (pg_name (i := 4) sc_law_time.nd rfl (Or.inl rfl))) (fun _ _ _ _ _ => (pts_one (pt_cmpR (show OpR _ _ (rIn K false) from op_in_seq) (pe_ix (show IxR _ (rIxL K) from ix_list) (pv 0) (pv 4) (fun _ _ => rfl)) (pv 2) (by with_unfolding_all rfl)))) (fun _ _ _ _ _ => (pv 4)))
      (pss_one (ps_ret (pe_op op_sub (pe_ix ix_list (pv 1) (pe_ix ix_list (pv 3) (pe_un un_neg pe_int) (fun _ _ => rfl)) (fun _ _ => rfl)) (pe_ix ix_list (pv 1) (pe_ix ix_list (pv 3) pe_int (fun _ _ => rfl)) (fun _ _ => rfl)))))), ?_⟩
    have e1 : (((sv ns).length : Nat) : Int).toNat = ns.length := by rw [len_sv, Int.toNat_natCast]
    have iv : ∀ l : List Nat, (nv l).length = l.length := fun l => List.length_map ..
    refine ⟨_, rfl, o, _, rfl, .inl hO, _, rfl, by rw [len_sv]; omega, by rw [len_sv]; omega, fun D hD => lc_range (n := (((sv ns).length : Nat) : Int).toNat) (PvS H D fun i => nv ((List.range i).filter fun i => (flags ns rr).getD i false)) (pv0 hD rfl) ?_ ?_⟩
    · rintro i H3 hi q
      rw [e1] at hi
      have hz : ns[i]? = some ns[i] := List.getElem?_eq_getElem hi
      have ej : atI (sv ns) (0 + (i : Int)) = some (V.str ns[i]) := by rw [Int.zero_add]; exact atI_nat (by rw [List.getElem?_map, hz]; rfl)
      refine ⟨rfl, _, rfl, _, rfl, o, _, _, _, rfl, rfl, q.1.seq hO, ej, _, rfl, r, _, rfl, q.1.sqa hR, rfl, flat_sv _, _, rfl, ?_⟩
      rw [if_neg Bool.false_ne_true, inV_str, ← flag_of hz]
      have hlen : (nv ((List.range i).filter fun i => (flags ns rr).getD i false)).length ≤ 1000000 := by
        have := List.length_filter_le (fun i => (flags ns rr).getD i false) (List.range i)
        rw [List.length_range] at this
        rw [iv]; omega
      cases hb : (flags ns rr).getD i false with
      | true =>
        refine ifT rfl ⟨_, rfl, ?_⟩
        refine q.push hD ?_ hlen
        show nv ((List.range (i + 1)).filter _) = _
        unfold nv
        rw [List.range_succ, List.filter_append, List.map_append, List.filter_cons_of_pos (p := fun i => (flags ns rr).getD i false) (a := i) (l := []) hb, Int.zero_add]; rfl
      | false =>
        refine ifF rfl (q.skip ?_)
        show nv ((List.range (i + 1)).filter _) = _
        unfold nv
        rw [List.range_succ, List.filter_append, List.map_append, List.filter_cons_of_neg (p := fun i => (flags ns rr).getD i false) (a := i) (l := []) (by rw [hb]; decide)]; simp
    · rintro H3 ⟨s3, h3⟩
      rw [e1] at h3
      have h3 : H3 D = some (.lst (nv (plc (flags ns rr)))) := by unfold plc; rw [flags_len]; exact h3
      obtain ⟨f, g, hf, hg, hfg, hgl⟩ := plc_ends hne
      rw [flags_len] at hgl
      have ag : atI (nv (plc (flags ns rr))) (-1) = some (V.int ((g : Nat) : Int)) := last_at (by rw [List.getLast?_map, hg]; rfl)
      have af : atI (nv (plc (flags ns rr))) 0 = some (V.int ((f : Nat) : Int)) := atI_nat (j := 0) (by rw [List.getElem?_map, ← List.head?_eq_getElem?, hf]; rfl)
      have ya : ys[f]? = some ys[f] := List.getElem?_eq_getElem (by omega)
      have yb : ys[g]? = some ys[g] := List.getElem?_eq_getElem (by omega)
      have ta : atI (ivs ys) (f : Int) = some (V.int ys[f]) := atI_nat (by rw [List.getElem?_map, ya]; rfl)
      have tb : atI (ivs ys) (g : Int) = some (V.int ys[g]) := atI_nat (by rw [List.getElem?_map, yb]; rfl)
      refine ⟨_, rfl, _, rfl, _, rfl, D, _, _, _, rfl, rfl, SqL.of h3, ag, y, _, _, _, rfl, rfl, s3.seq hY, tb, _, rfl, _, rfl, D, _, _, _, rfl, rfl, SqL.of h3, af, y, _, _, _, rfl, rfl, s3.seq hY, ta, _, _, rfl, rfl, ?_⟩
      exact k f g _ _ H3 hf hg ya yb s3
/-- the least wrong index of an order, or -1 -/
def spBadIx (K : PySem.W.Frag) : Sp := fun vs H Q _ => ∃ n o cs ns, vs = [.ref n, .ref o] ∧ SqL K H n (sv cs) ∧ SqL K H o (sv ns) ∧ ns.length ≤ 1000 ∧ ∀ H', Same H H' → Q (.int (match fault cs ns with | some i => ((i : Nat) : Int) | none => -1)) H'
theorem ok_badIx (T : Txt P K mg A) : FnOk P w K mg base CX0 1 A.a_law_bad_index A.d_law_bad_index ["names", "order"] (spBadIx K) := by
  refine T.F_law_bad_index.ok sc_law_bad_index (fun vs H Q E h => ?_) (fun cdv A' outer s H vs Q E hr h => ?_)
  · obtain ⟨n, o, cs, ns, rfl, _⟩ := h
    rfl
  · obtain ⟨n, o, cs, ns, rfl, hN, hO, hl, k⟩ := h
    refine ⟨_, (pss_cons (ps_for PassesOwn.never rfl (pi_range1 (by rfl) T.n_range (pa_cons (pe_callB call_len_seq (by rfl) T.n_len (by decide +kernel) (pa_cons (pv 1) pa_nil)) pa_nil)) (pg_name (i := 2) sc_law_bad_index.nd rfl (Or.inl rfl))
        (pss_one (ps_if (PW.pt (pw_or (pt_cmpR op_notIn_seq (pe_ix ix_list (pv 1) (pv 2) (fun _ _ => rfl)) (pv 0) (by with_unfolding_all rfl)) (pw_or1 (pt_cmpR op_in_seq (pe_ix ix_list (pv 1) (pv 2) (fun _ _ => rfl)) (pe_slice sl_list (pv 1) po_none (po_some (pv 2))) (by with_unfolding_all rfl))))) (pss_one (ps_ret (pv 2))) pss_nil)))
      (pss_cons (ps_if (pt_cmpR op_lt (pe_callB call_len_seq (by rfl) T.n_len (by decide +kernel) (pa_cons (pv 1) pa_nil)) (pe_callB call_len_seq (by rfl) T.n_len (by decide +kernel) (pa_cons (pv 0) pa_nil)) (nomark _)) (pss_one (ps_ret (pe_callB call_len_seq (by rfl) T.n_len (by decide +kernel) (pa_cons (pv 1) pa_nil)))) pss_nil)
      (pss_one (ps_ret (pe_un un_neg pe_int))))), ?_⟩
    have e1 : (((sv ns).length : Nat) : Int).toNat = ns.length := by rw [len_sv, Int.toNat_natCast]
    refine ⟨_, rfl, o, _, rfl, .inl hO, _, rfl, by rw [len_sv]; omega, by rw [len_sv]; omega, ?_⟩
    refine for_range (n := (((sv ns).length : Nat) : Int).toNat) (fun i σ H2 => Same H H2 ∧ (∀ j, j < i → badAt cs ns j = false) ∧ ∃ u : Option V, σ = [some (.ref n), some (.ref o), u]) ⟨Same.refl _, fun j hj => absurd hj (Nat.not_lt_zero _), none, rfl⟩ ?_ ?_
    · rintro i σ H2 hi ⟨sm, hb, u, rfl⟩
      rw [e1] at hi
      have hz : ns[i]? = some ns[i] := List.getElem?_eq_getElem hi
      have ej : atI (sv ns) (0 + (i : Int)) = some (V.str ns[i]) := by rw [Int.zero_add]; exact atI_nat (by rw [List.getElem?_map, hz]; rfl)
      have bad : badAt cs ns i = (!decide (ns[i] ∈ cs) || decide (ns[i] ∈ ns.take i)) := by unfold badAt; rw [hz]
      have ei : ((0 : Int) + (i : Int)) = ((i : Nat) : Int) := by omega
      have ret : badAt cs ns i = true → ∀ H3, Same H H3 → Q (.int (0 + (i : Int))) H3 := fun hbt H3 s3 => by
        have e : fault cs ns = some i := by unfold fault; rw [stray_some hi hbt hb]
        have := k H3 s3
        rw [e] at this
        rw [ei]
        exact this
      refine ⟨_, rfl, _, rfl, o, _, _, _, rfl, rfl, sm.seq hO, ej, _, rfl, n, _, rfl, .inl (sm.seq hN), rfl, flat_sv _, _, rfl, ?_⟩
      rw [if_pos rfl, inV_str]
      by_cases hc : ns[i] ∈ cs
      · refine ifF (by rw [decide_eq_true hc]; rfl) ?_
        refine ⟨_, rfl, _, rfl, o, _, _, _, rfl, rfl, sm.seq hO, ej, _, rfl, _, rfl, _, rfl, slO (sm.seq hO) fun a H3 s3 _ ha => ?_⟩
        rw [ei, cut_takeG, sv_take] at ha
        refine ⟨a, _, rfl, .inl (SqL.of ha), rfl, flat_sv _, _, rfl, ?_⟩
        rw [if_neg Bool.false_ne_true, inV_str]
        by_cases hp : ns[i] ∈ ns.take i
        · exact ifT (decide_eq_true hp) ⟨_, rfl, ret (by rw [bad, decide_eq_true hp, Bool.or_true]) H3 (sm.trans s3)⟩
        · refine ifF (decide_eq_false hp) ⟨sm.trans s3, fun j hj => ?_, _, rfl⟩
          rcases Nat.lt_succ_iff_lt_or_eq.mp hj with q | q
          · exact hb j q
          · rw [q, bad, decide_eq_true hc, decide_eq_false hp]; rfl
      · exact ifT (by rw [decide_eq_false hc]; rfl) (ifT rfl ⟨_, rfl, ret (by rw [bad, decide_eq_false hc]; rfl) H2 sm⟩)
    · rintro σ H2 ⟨sm, hb, u, rfl⟩
      rw [e1] at hb
      have hs : stray cs ns = none := stray_none fun j hj => hb j hj
      have ef : fault cs ns = if ns.length < cs.length then some ns.length else none := by unfold fault; rw [hs]
      have := k H2 sm
      rw [ef] at this
      refine ⟨_, rfl, o, _, rfl, .inl (sm.seq hO), _, rfl, n, _, rfl, .inl (sm.seq hN), _, _, rfl, rfl, _, rfl, ?_⟩
      by_cases hlt : ns.length < cs.length
      · rw [if_pos hlt] at this
        refine itY (by rw [len_sv, len_sv]; omega) ⟨_, rfl, o, _, rfl, .inl (sm.seq hO), ?_⟩
        rw [len_sv]
        exact this
      · rw [if_neg hlt] at this
        refine itN (by rw [len_sv, len_sv]; omega) ?_
        exact ⟨_, rfl, this⟩
end
end My
set_option maxRecDepth 100000
set_option maxHeartbeats 4000000
set_option exponentiation.threshold 10000
namespace My
open PySem L2
/-- the least index at which years are no dating of an order of n columns -/
def badYear (n : Nat) (ys : List Int) (i : Nat) : Bool := decide (n ≤ i) || (decide (ys.length ≤ i) || (decide (0 < i) && decide (ys.getD i 0 < ys.getD (i - 1) 0)))
def yearFault (n : Nat) (ys : List Int) : Option Nat := (List.range (max n ys.length)).find? (badYear n ys)
theorem yearFault_some {n : Nat} {ys : List Int} {i : Nat} (hi : i < max n ys.length) (h1 : badYear n ys i = true) (h2 : ∀ j, j < i → badYear n ys j = false) : yearFault n ys = some i := by
  unfold yearFault
  rw [List.find?_range_eq_some]
  exact ⟨h1, List.mem_range.mpr hi, fun j hj => by rw [h2 j hj]; rfl⟩
theorem yearFault_none {n : Nat} {ys : List Int} (h2 : ∀ j, j < max n ys.length → badYear n ys j = false) : yearFault n ys = none := by
  unfold yearFault
  rw [List.find?_eq_none]
  intro j hj
  rw [h2 j (List.mem_range.mp hj)]
  exact Bool.false_ne_true
section
variable {P : Program} {w : World} {K : PySem.W.Frag} {mg : Str → Option Value} {base : Heap} {A : Ad}
def spBadYear (K : PySem.W.Frag) : Sp := fun vs H Q _ => ∃ o y ns, ∃ ys : List Int, vs = [.ref o, .ref y] ∧ SqL K H o (sv ns) ∧ SqL K H y (ivs ys) ∧ ns.length ≤ 1000 ∧ ys.length ≤ 1000 ∧ ∀ H', Same H H' → Q (.int (match yearFault ns.length ys with | some i => ((i : Nat) : Int) | none => -1)) H'
theorem ok_badYear (T : Txt P K mg A) : FnOk P w K mg base CX0 1 A.a_law_bad_year A.d_law_bad_year ["order", "years"] (spBadYear K) := by
  refine T.F_law_bad_year.ok sc_law_bad_year (fun vs H Q E h => ?_) (fun cdv A' outer s H vs Q E hr h => ?_)
  · obtain ⟨o, y, ns, ys, rfl, _⟩ := h
    rfl
  · obtain ⟨o, y, ns, ys, rfl, hO, hY, hl, hyl, k⟩ := h
    refine ⟨_, (pss_cons (ps_for PassesOwn.never rfl (pi_range1 (by rfl) T.n_range (pa_cons (pe_callB (call_max2 rfl) (by rfl) T.n_max (by decide +kernel) (pa_cons (pe_callB call_len_seq (by rfl) T.n_len (by decide +kernel) (pa_cons (pv 0) pa_nil)) (pa_cons (pe_callB call_len_seq (by rfl) T.n_len (by decide +kernel) (pa_cons (pv 1) pa_nil)) pa_nil))) pa_nil)) (pg_name (i := 2) sc_law_bad_year.nd rfl (Or.inl rfl))
        (pss_cons (ps_if (PW.pt (pw_or (pt_cmpR op_ge (pv 2) (pe_callB call_len_seq (by rfl) T.n_len (by decide +kernel) (pa_cons (pv 0) pa_nil)) (nomark _)) (pw_or1 (pt_cmpR op_ge (pv 2) (pe_callB call_len_seq (by rfl) T.n_len (by decide +kernel) (pa_cons (pv 1) pa_nil)) (nomark _))))) (pss_one (ps_ret (pv 2))) pss_nil)
      (pss_one (ps_if (PW.pt (pw_and (pt_cmpR op_gt (pv 2) pe_int (nomark _)) (pw_and1 (pt_cmpR op_lt (pe_ix ix_list (pv 1) (pv 2) (fun _ _ => rfl)) (pe_ix ix_list (pv 1) (pe_op op_sub (pv 2) pe_int) (fun _ _ => rfl)) (nomark _))))) (pss_one (ps_ret (pv 2))) pss_nil))))
      (pss_one (ps_ret (pe_un un_neg pe_int)))), ?_⟩
    have ly : (ivs ys).length = ys.length := List.length_map ..
    generalize hM : (if ((ivs ys).length : Int) > ((sv ns).length : Int) then ((ivs ys).length : Int) else ((sv ns).length : Int)) = M
    have eM : M = ((max ns.length ys.length : Nat) : Int) := by
      rw [← hM, ly, len_sv]
      split <;> omega
    have e1 : M.toNat = max ns.length ys.length := by rw [eM, Int.toNat_natCast]
    refine ⟨_, rfl, o, _, rfl, .inl hO, _, rfl, y, _, rfl, .inl hY, _, _, rfl, M, by rw [← hM], by omega, by omega, ?_⟩
    refine for_range (n := M.toNat) (fun i σ H2 => Same H H2 ∧ (∀ j, j < i → badYear ns.length ys j = false) ∧ ∃ u : Option V, σ = [some (.ref o), some (.ref y), u]) ⟨Same.refl _, fun j hj => absurd hj (Nat.not_lt_zero _), none, rfl⟩ ?_ ?_
    · rintro i σ H2 hi ⟨sm, hb, u, rfl⟩
      rw [e1] at hi
      have ei : ((0 : Int) + (i : Int)) = ((i : Nat) : Int) := by omega
      have ret : badYear ns.length ys i = true → Q (.int (0 + (i : Int))) H2 := fun hbt => by
        have e := yearFault_some hi hbt hb
        have := k H2 sm
        rw [e] at this
        rw [ei]
        exact this
      have ok : badYear ns.length ys i = false → ∀ j, j < i + 1 → badYear ns.length ys j = false := fun h j hj => by
        rcases Nat.lt_succ_iff_lt_or_eq.mp hj with q | q
        · exact hb j q
        · rw [q]; exact h
      refine ⟨_, rfl, _, rfl, o, _, rfl, .inl (sm.seq hO), _, _, rfl, rfl, _, rfl, ?_⟩
      by_cases h1 : ns.length ≤ i
      · refine itY (by rw [len_sv]; omega) (ifT rfl ⟨_, rfl, ret ?_⟩)
        unfold badYear; rw [decide_eq_true h1]; rfl
      · refine itN (by rw [len_sv]; omega) ?_
        refine ⟨_, rfl, _, rfl, y, _, rfl, .inl (sm.seq hY), _, _, rfl, rfl, _, rfl, ?_⟩
        by_cases h2 : ys.length ≤ i
        · refine ifT (decide_eq_true (by rw [ly]; omega)) ⟨_, rfl, ret ?_⟩
          unfold badYear; rw [decide_eq_true h2, Bool.true_or, Bool.or_true]
        · refine ifF (decide_eq_false (by rw [ly]; omega)) ?_
          have hyi : i < ys.length := by omega
          have bad : badYear ns.length ys i = (decide (0 < i) && decide (ys.getD i 0 < ys.getD (i - 1) 0)) := by unfold badYear; rw [decide_eq_false h1, decide_eq_false h2]; rfl
          refine ⟨_, rfl, _, _, rfl, rfl, _, rfl, ?_⟩
          by_cases h0 : 0 < i
          · refine itY (by omega) ?_
            have z1 : ys[i]? = some ys[i] := List.getElem?_eq_getElem hyi
            have z0 : ys[i - 1]? = some ys[i - 1] := List.getElem?_eq_getElem (by omega)
            have a1 : atI (ivs ys) (0 + (i : Int)) = some (V.int ys[i]) := by rw [ei]; exact atI_nat (by rw [List.getElem?_map, z1]; rfl)
            have a0 : atI (ivs ys) (0 + (i : Int) - 1) = some (V.int ys[i - 1]) := by
              rw [show (0 + (i : Int) - 1) = ((i - 1 : Nat) : Int) by omega]
              exact atI_nat (by rw [List.getElem?_map, z0]; rfl)
            have g1 : ys.getD i 0 = ys[i] := by rw [List.getD_eq_getElem?_getD, z1]; rfl
            have g0 : ys.getD (i - 1) 0 = ys[i - 1] := by rw [List.getD_eq_getElem?_getD, z0]; rfl
            rw [decide_eq_true h0, Bool.true_and, g1, g0] at bad
            refine ⟨_, rfl, _, rfl, y, _, _, _, rfl, rfl, sm.seq hY, a1, _, rfl, _, rfl, _, _, rfl, rfl, y, _, _, _, rfl, rfl, sm.seq hY, a0, _, _, rfl, rfl, _, rfl, ?_⟩
            by_cases hlt : ys[i] < ys[i - 1]
            · exact ifT (decide_eq_true hlt) ⟨_, rfl, ret (by rw [bad]; exact decide_eq_true hlt)⟩
            · exact ifF (decide_eq_false hlt) ⟨sm, ok (by rw [bad]; exact decide_eq_false hlt), _, rfl⟩
          · refine itN (by omega) (ifF rfl ⟨sm, ok (by rw [bad, decide_eq_false h0]; rfl), _, rfl⟩)
    · rintro σ H2 ⟨sm, hb, u, rfl⟩
      rw [e1] at hb
      have := k H2 sm
      rw [yearFault_none hb] at this
      exact ⟨_, rfl, this⟩
end
end My
set_option maxRecDepth 100000
set_option maxHeartbeats 4000000
set_option exponentiation.threshold 10000
namespace My
open PySem L2
section
variable {P : Program} {w : World} {K : PySem.W.Frag} {mg : Str → Option Value} {base : Heap} {A : Ad}
def spLen (C : Addr) : Sp := fun vs H Q _ => ∃ p cs rs, vs = [.ref p] ∧ Tb C H p cs rs ∧ Q (.int (rs.length : Nat)) H
theorem ok_len (T : Txt P K mg A) : FnOk P w K mg base CX0 1 A.a_Table_len A.d_Table_len ["self"] (spLen A.C_Table) := by
  refine T.F_Table_len.ok sc_Table_len (fun vs H Q E h => ?_) (fun cdv A' outer s H vs Q E hr h => ?_)
  · obtain ⟨p, cs, rs, rfl, _⟩ := h
    rfl
  · obtain ⟨p, cs, rs, rfl, ⟨dx, ct, rt, ts, h1, hc, h3, hs⟩, k⟩ := h
    refine ⟨_, (pss_one (ps_ret (pe_callB call_len_seq (by rfl) T.n_len (by decide +kernel) (pa_cons (pe_fld (pv 0) rfl) pa_nil)))), ?_⟩
    refine ⟨_, rfl, _, _, _, _, _, rfl, h1, T.cl_Table, T.n_Table_rows, fldsT_rows _ _, rt, _, rfl, .inr (SqT.of h3), ?_⟩
    rw [List.length_map, hs.len, List.length_map]
    exact k
def hasTime (cs : List Str) (rs : List (List Str)) (i : Int) : Bool := decide (0 ≤ i ∧ i < rs.length) && decide (0 < (canon cs (rs.getD i.toNat [])).length)
def spHasTime (C : Addr) : Sp := fun vs H Q _ => ∃ p i cs rs, vs = [.ref p, .int i] ∧ Tb C H p cs rs ∧ rs.length ≤ 48 ∧ ∀ H', Same H H' → Q (.bl (hasTime cs rs i)) H'
theorem ok_hasTime (T : Txt P K mg A) : FnOk P w K mg base CX0 3 A.a_has_time A.d_has_time ["table", "number"] (spHasTime A.C_Table) := by
  have G_Table_len := ok_len (P := P) (w := w) (base := base) T
  have G_Table_getitem := ok_get (P := P) (w := w) (base := base) T
  refine T.F_has_time.ok sc_has_time (fun vs H Q E h => ?_) (fun cdv A' outer s H vs Q E hr h => ?_)
  · obtain ⟨p, i, cs, rs, rfl, _⟩ := h
    rfl
  · obtain ⟨p, i, cs, rs, rfl, hT, hrl, k⟩ := h
    refine ⟨_, (pss_one (ps_ret (pe_and (pe_chain op_le op_lt pe_int (pv 1) (pe_callB (show CallR _ _ (rLenOwn A.C_Table _ _) from call_lenOwn G_Table_len T.b_Table_len pass0 (hr.mono (by decide)) T.m_Table_len.at_ T.m_Table_len.fn) (by rfl) T.n_len (by decide +kernel) (pa_cons (pv 0) pa_nil))) (pe_one (pe_cmpR op_gt (pe_callB call_len_seq (by rfl) T.n_len (by decide +kernel) (pa_cons (pe_ixOwn G_Table_getitem T.b_Table_getitem passS0 (hr.mono (by decide)) T.m_Table_getitem.at_ (fnIn_of T.F_Table_getitem) T.m_Table_getitem.fn (pv 0) (pv 1) (fun _ _ => by with_unfolding_all rfl)) pa_nil)) pe_int (nomark _)))))), ?_⟩
    obtain ⟨dx, ct, rt, ts, h1, _⟩ := id hT
    have kk := k H (Same.refl _)
    refine ⟨_, rfl, _, _, rfl, rfl, _, rfl, ?_⟩
    by_cases h0 : 0 ≤ i
    · refine itY h0 ?_
      refine ⟨_, rfl, p, dx, _, rfl, h1, p, cs, rs, rfl, hT, rs.length, rfl, by omega, _, _, rfl, rfl, _, rfl, ?_⟩
      by_cases hl : i < (rs.length : Int)
      · refine ifT (decide_eq_true hl) ?_
        have hn : i.toNat < rs.length := by omega
        have ei : i = ((i.toNat : Nat) : Int) := by omega
        refine ⟨_, rfl, _, rfl, p, dx, _, rfl, h1, p, i.toNat, cs, rs, by rw [← ei], hT, hn, fun t r hr3 ht => ?_⟩
        have eg : rs.getD i.toNat [] = r := by rw [List.getD_eq_getElem?_getD, hr3]; rfl
        refine ⟨t, _, rfl, .inr (SqT.of ht), _, _, rfl, rfl, ?_⟩
        have e : hasTime cs rs i = decide ((0 : Int) < ((sv (canon cs r)).length : Int)) := by
          unfold hasTime
          rw [decide_eq_true (⟨h0, hl⟩ : 0 ≤ i ∧ i < (rs.length : Int)), Bool.true_and, eg, len_sv]
          exact decide_eq_decide.mpr (by omega)
        rw [e] at kk
        exact kk
      · refine ifF (decide_eq_false hl) ?_
        have e : hasTime cs rs i = false := by unfold hasTime; rw [decide_eq_false (fun h : 0 ≤ i ∧ i < (rs.length : Int) => hl h.2)]; rfl
        rw [e] at kk
        exact kk
    · refine itN h0 ?_
      have e : hasTime cs rs i = false := by unfold hasTime; rw [decide_eq_false (fun h : 0 ≤ i ∧ i < (rs.length : Int) => h0 h.1)]; rfl
      rw [e] at kk
      exact ⟨_, rfl, ifF rfl kk⟩
def mostOk (l : Int) : Option Int → Bool
  | none => true
  | some m => decide (l ≤ m ∧ m ≤ 1000000)
def areTimes (l : Int) (m : Option Int) : Bool := decide (0 ≤ l ∧ l ≤ 1000000) && mostOk l m
def optI : Option Int → V
  | none => .non
  | some i => .int i
def spAreTimes : Sp := fun vs H Q _ => ∃ l m, vs = [.int l, optI m] ∧ Q (.bl (areTimes l m)) H
theorem ok_areTimes (T : Txt P K mg A) : FnOk P w K mg base CX0 1 A.a_are_times A.d_are_times ["least", "most"] spAreTimes := by
  refine T.F_are_times.ok sc_are_times (fun vs H Q E h => ?_) (fun cdv A' outer s H vs Q E hr h => ?_)
  · obtain ⟨l, m, rfl, _⟩ := h
    rfl
  · obtain ⟨l, m, rfl, k⟩ := h
    refine ⟨_, (pss_one (ps_ret (pe_and (pe_chain op_le op_le pe_int (pv 0) (pe_glob (v := .int 1000000) rfl T.mg_MOST_YEARS.choose_spec ⟨_, rfl⟩)) (pe_one (pe_or (pe_cmpR op_isN (pv 1) pe_non (nomark _)) (pe_one (pe_chain op_le op_le (pv 0) (pv 1) (pe_glob (v := .int 1000000) rfl T.mg_MOST_YEARS.choose_spec ⟨_, rfl⟩)))))))), ?_⟩
    refine ⟨_, rfl, _, _, rfl, rfl, _, rfl, ?_⟩
    by_cases h0 : 0 ≤ l
    · refine itY h0 ?_
      refine ⟨_, _, rfl, rfl, _, rfl, ?_⟩
      by_cases h1 : l ≤ 1000000
      · refine ifT (decide_eq_true h1) ?_
        have hb : areTimes l m = mostOk l m := by
          unfold areTimes; rw [decide_eq_true (⟨h0, h1⟩ : 0 ≤ l ∧ l ≤ 1000000), Bool.true_and]
        rw [hb] at k
        cases m with
        | none => exact ⟨_, rfl, rfl, _, rfl, ifT rfl k⟩
        | some m =>
          refine ⟨_, rfl, rfl, _, rfl, ifF (decide_eq_false (fun z => nomatch z)) ?_⟩
          refine ⟨_, rfl, _, rfl, _, _, rfl, rfl, _, rfl, ?_⟩
          by_cases h2 : l ≤ m
          · refine ifT (decide_eq_true h2) ⟨_, _, rfl, rfl, ?_⟩
            have e : decide (l ≤ m ∧ m ≤ 1000000) = decide (m ≤ 1000000) := decide_eq_decide.mpr ⟨fun h => h.2, fun h => ⟨h2, h⟩⟩
            have k : Q (.bl (decide (l ≤ m ∧ m ≤ 1000000))) H := k
            rw [e] at k
            exact k
          · refine ifF (decide_eq_false h2) ?_
            have e : decide (l ≤ m ∧ m ≤ 1000000) = false := decide_eq_false fun h => h2 h.1
            have k : Q (.bl (decide (l ≤ m ∧ m ≤ 1000000))) H := k
            rw [e] at k
            exact k
      · refine ifF (decide_eq_false h1) ?_
        have e : areTimes l m = false := by unfold areTimes; rw [decide_eq_false (fun h : 0 ≤ l ∧ l ≤ 1000000 => h1 h.2)]; rfl
        rw [e] at k
        exact k
    · refine itN h0 ?_
      have e : areTimes l m = false := by unfold areTimes; rw [decide_eq_false (fun h : 0 ≤ l ∧ l ≤ 1000000 => h0 h.1)]; rfl
      rw [e] at k
      exact ⟨_, rfl, ifF rfl k⟩
end
end My
set_option maxRecDepth 100000
set_option maxHeartbeats 4000000
set_option exponentiation.threshold 10000
namespace My
open PySem L2
def ixOf (ns : List Str) (z : Str) : Nat := ns.findIdx fun y => decide (y = z)
theorem ixOf_lt {ns : List Str} {z : Str} (h : z ∈ ns) : ixOf ns z < ns.length := List.findIdx_lt_length_of_exists ⟨z, h, decide_eq_true rfl⟩
theorem ixOf_at {ns : List Str} {z : Str} (h : z ∈ ns) : ns[ixOf ns z]? = some z := by
  have hl := ixOf_lt h
  have := List.findIdx_getElem (p := fun y => decide (y = z)) (xs := ns) (w := hl)
  rw [List.getElem?_eq_getElem hl]
  exact congrArg some (of_decide_eq_true this)
theorem ixOf_no {ns : List Str} {z y : Str} {m : Nat} (h : m < ixOf ns z) (hy : ns[m]? = some y) : y ≠ z := by
  have := List.not_of_lt_findIdx (p := fun y => decide (y = z)) (xs := ns) h
  obtain ⟨hm, e⟩ := List.getElem?_eq_some_iff.mp hy
  rw [e] at this
  simpa using this
theorem ixOf_of {ns : List Str} {i : Nat} {z : Str} (nd : ns.Nodup) (h : ns[i]? = some z) : ixOf ns z = i := by
  have hz := List.mem_of_getElem? h
  obtain ⟨hi, e⟩ := List.getElem?_eq_some_iff.mp h
  obtain ⟨hj, e'⟩ := List.getElem?_eq_some_iff.mp (ixOf_at hz)
  rw [List.nodup_iff_pairwise_ne, List.pairwise_iff_getElem] at nd
  rcases Nat.lt_trichotomy (ixOf ns z) i with c | c | c
  · exact absurd (e'.trans e.symm) (nd _ _ hj hi c)
  · exact c
  · exact absurd (e.trans e'.symm) (nd _ _ hi hj c)
theorem plc_mem {ns r : List Str} {i : Nat} : i ∈ plc (flags ns r) ↔ ∃ z, ns[i]? = some z ∧ z ∈ r := by
  unfold plc
  rw [List.mem_filter, List.mem_range, flags_len]
  constructor
  · rintro ⟨hi, h⟩
    have hz : ns[i]? = some ns[i] := List.getElem?_eq_getElem hi
    rw [flag_of hz] at h
    exact ⟨ns[i], hz, of_decide_eq_true h⟩
  · rintro ⟨z, hz, hm⟩
    exact ⟨(List.getElem?_eq_some_iff.mp hz).1, by rw [flag_of hz]; exact decide_eq_true hm⟩
theorem plc_sorted (l : List Bool) : (plc l).Pairwise (· < ·) := List.Pairwise.filter _ List.pairwise_lt_range
theorem plc_head_le {l : List Bool} {f : Nat} (h : (plc l).head? = some f) : f ∈ plc l ∧ ∀ x ∈ plc l, f ≤ x := by
  have hp := plc_sorted l
  cases e : plc l with
  | nil => rw [e] at h; cases h
  | cons a t =>
    rw [e] at h hp
    cases h
    refine ⟨List.mem_cons_self, fun x hx => ?_⟩
    rcases List.mem_cons.mp hx with h1 | h1
    · omega
    · exact Nat.le_of_lt ((List.pairwise_cons.mp hp).1 x h1)
theorem plc_last_ge {l : List Bool} {g : Nat} (h : (plc l).getLast? = some g) : g ∈ plc l ∧ ∀ x ∈ plc l, x ≤ g := by
  have hp := plc_sorted l
  refine ⟨List.mem_of_getLast? h, fun x hx => ?_⟩
  obtain ⟨ys, e⟩ := List.getLast?_eq_some_iff.mp h
  rw [e] at hp hx
  rcases List.mem_append.mp hx with h1 | h1
  · exact Nat.le_of_lt ((List.pairwise_append.mp hp).2.2 x h1 g (List.mem_singleton.mpr rfl))
  · rw [List.mem_singleton.mp h1]; exact Nat.le_refl _
section
variable {P : Program} {w : World} {K : PySem.W.Frag} {mg : Str → Option Value} {base : Heap} {A : Ad}
def spEnds (K : PySem.W.Frag) : Sp := fun vs H Q _ => ∃ o r ns rr, vs = [.ref o, .ref r] ∧ SqL K H o (sv ns) ∧ SqL K H r (sv rr) ∧ ns.length ≤ 1000 ∧ rr.length ≤ 1000 ∧ ns.Nodup ∧ rr ≠ [] ∧ (∀ z ∈ rr, z ∈ ns) ∧
  ∀ f g t H', (plc (flags ns rr)).head? = some f → (plc (flags ns rr)).getLast? = some g → Same H H' → H' t = some (.tup [.int ((f : Nat) : Int), .int ((g : Nat) : Int)]) → Q (.ref t) H'
theorem ok_ends (T : Txt P K mg A) : FnOk P w K mg base CX0 1 A.a_ends_of A.d_ends_of ["order", "names"] (spEnds K) := by
  refine T.F_ends_of.ok sc_ends_of (fun vs H Q E h => ?_) (fun cdv A' outer s H vs Q E hr h => ?_)
  · obtain ⟨o, r, ns, rr, rfl, _⟩ := h
    rfl
  · obtain ⟨o, r, ns, rr, rfl, hO, hR, hl, hrl, nd, hne, hin, k⟩ := h
    refine ⟨_, (pss_cons (ps_setLc (i := 2) (own := [("name", 3)]) (g := gName 3) (tt := tYes) rfl sc_ends_of.nd rfl rfl (sw_true rfl rfl rfl (by decide +kernel)) (pi_list (pv 1)) (blkOk_by (N := ["order", "names", "found", "name"]) (sc := defScope s_ends_of) (by decide +kernel)) (fun _ _ _ _ _ => (pg_name (i := 3) sc_ends_of.nd rfl (Or.inl rfl))) (fun _ _ _ _ _ => pts_nil) (fun _ _ _ _ _ => (show PE _ _ (tBM K "list" (rIndex K) _ _) from (pe_bm PySem.F.plainAttrs_list PySem.F.slot_list_index PySem.F.type_list_index mt_index (pv 0) (pa_cons (pv 3) pa_nil)))))
      (pss_one (ps_ret (pe_tup (pa_cons (pe_callB (cr_min rfl) (by rfl) T.n_min (by decide +kernel) (pa_cons (pv 2) pa_nil)) (pa_cons (pe_callB (cr_max rfl) (by rfl) T.n_max (by decide +kernel) (pa_cons (pv 2) pa_nil)) pa_nil)))))), ?_⟩
    have fl : ∀ l : List Str, (ivs (l.map fun z => ((ixOf ns z : Nat) : Int))).length = l.length := fun l => by rw [List.length_map, List.length_map]
    have mem : ∀ m : Int, m ∈ rr.map (fun z => ((ixOf ns z : Nat) : Int)) ↔ ∃ i : Nat, m = (i : Int) ∧ i ∈ plc (flags ns rr) := fun m => by
      rw [List.mem_map]
      constructor
      · rintro ⟨z, hz, rfl⟩
        exact ⟨ixOf ns z, rfl, plc_mem.mpr ⟨z, ixOf_at (hin z hz), hz⟩⟩
      · rintro ⟨i, rfl, hi⟩
        obtain ⟨z, hz, hm⟩ := plc_mem.mp hi
        exact ⟨z, hm, by rw [ixOf_of nd hz]⟩
    refine ⟨_, rfl, r, rfl, ⟨_, hR⟩, fun D hD => lc_it walk_list (PvS H D fun i => ivs ((rr.take i).map fun z => ((ixOf ns z : Nat) : Int))) (pv0 hD rfl) (fun i H2 _ q => q.1.seq hR) ?_ ?_⟩
    · rintro i x H3 H4 hi q ⟨rfl, hx⟩
      obtain ⟨z, hz, rfl⟩ := sv_get hx
      have hzn := hin z (List.mem_of_getElem? hz)
      refine ⟨rfl, _, rfl, .inl ⟨rfl, _, q.1.seq hO⟩, _, rfl, o, sv ns, .str z, ixOf ns z, .str z, rfl, rfl, q.1.seq hO, rfl, flat_sv _, by rw [List.getElem?_map, ixOf_at hzn]; rfl, by rw [eqV_str]; exact decide_eq_true rfl, fun m z' hm hz' => ?_, ?_⟩
      · obtain ⟨y, hy, rfl⟩ := sv_get hz'
        rw [eqV_str]
        exact decide_eq_false (ixOf_no hm hy)
      · refine q.push hD ?_ (by rw [fl, List.length_take]; omega)
        show ivs ((rr.take (i + 1)).map _) = _
        rw [take_succ hz, List.map_append]; exact List.map_append
    · rintro H3 ⟨s3, h3⟩
      have h3 : H3 D = some (.lst (ivs ((rr.take (sv rr).length).map fun z => ((ixOf ns z : Nat) : Int)))) := h3
      rw [len_sv, List.take_length] at h3
      have hpos : 0 < (rr.map fun z => ((ixOf ns z : Nat) : Int)).length := by rw [List.length_map]; exact List.length_pos_iff.mpr hne
      refine ⟨_, rfl, D, _, rfl, SqL.of h3, hpos, fun m hm hmin => ?_⟩
      refine ⟨_, rfl, D, _, rfl, SqL.of h3, hpos, fun m2 hm2 hmax => ?_⟩
      obtain ⟨f, rfl, hf⟩ := (mem m).mp hm
      obtain ⟨g, rfl, hg⟩ := (mem m2).mp hm2
      have hne2 : plc (flags ns rr) ≠ [] := fun e => by rw [e] at hf; cases hf
      obtain ⟨f', g', hf', hg', _⟩ := plc_ends hne2
      have a := plc_head_le hf'
      have b := plc_last_ge hg'
      have ef : f = f' := by
        have h1 := a.2 f hf
        have h2 := hmin (f' : Int) ((mem _).mpr ⟨f', rfl, a.1⟩)
        omega
      have eg : g = g' := by
        have h1 := b.2 g hg
        have h2 := hmax (g' : Int) ((mem _).mpr ⟨g', rfl, b.1⟩)
        omega
      subst ef; subst eg
      refine ⟨by show 2 ≤ sizeLine; decide, fun t ht => ?_⟩
      exact k f g t _ hf' hg' (s3.trans (same_new ht)) upd_same
end
end My
set_option maxRecDepth 100000
set_option maxHeartbeats 4000000
set_option exponentiation.threshold 10000
namespace My
open PySem L2
section
variable {P : Program} {w : World} {K : PySem.W.Frag} {mg : Str → Option Value} {base : Heap} {A : Ad}
def spTime (K : PySem.W.Frag) : Sp := fun vs H Q _ => ∃ o y r ns rr, ∃ ys : List Int, vs = [.ref o, .ref y, .ref r] ∧ SqL K H o (sv ns) ∧ SqL K H y (ivs ys) ∧ SqL K H r (sv rr) ∧ ns.length ≤ 1000 ∧ rr.length ≤ 1000 ∧ ns.length ≤ ys.length ∧ ns.Nodup ∧ rr ≠ [] ∧ (∀ z ∈ rr, z ∈ ns) ∧
  ∀ f g a b H', (plc (flags ns rr)).head? = some f → (plc (flags ns rr)).getLast? = some g → ys[f]? = some a → ys[g]? = some b → Same H H' → Q (.int (b - a)) H'
theorem ok_time (T : Txt P K mg A) : FnOk P w K mg base CX0 2 A.a_time_of A.d_time_of ["order", "years", "names"] (spTime K) := by
  have G_ends_of := ok_ends (P := P) (w := w) (base := base) T
  refine T.F_time_of.ok sc_time_of (fun vs H Q E h => ?_) (fun cdv A' outer s H vs Q E hr h => ?_)
  · obtain ⟨o, y, r, ns, rr, ys, rfl, _⟩ := h
    rfl
  · obtain ⟨o, y, r, ns, rr, ys, rfl, hO, hY, hR, hl, hrl, hly, nd, hne, hin, k⟩ := h
    refine ⟨_, (pss_cons (ps_asg (pe_call G_ends_of (hr.mono (by decide)) rfl T.mg_ends_of T.F_ends_of.kp T.b_ends_of .nil pass0 (pa_cons (pv 0) (pa_cons (pv 2) pa_nil))) (pg_tup (by rfl) (pgs_cons (pg_name (i := 3) sc_time_of.nd rfl (Or.inl rfl)) (pgs_cons (pg_name (i := 4) sc_time_of.nd rfl (Or.inl rfl)) pgs_nil))))
      (pss_one (ps_ret (pe_op op_sub (pe_ix ix_list (pv 1) (pv 4) (fun _ _ => rfl)) (pe_ix ix_list (pv 1) (pv 3) (fun _ _ => rfl)))))), ?_⟩
    refine ⟨_, rfl, _, rfl, o, r, ns, rr, rfl, hO, hR, hl, hrl, nd, hne, hin, fun f g t H1 hf hg s1 ht => ?_⟩
    have hgl := plc_lt (List.mem_of_getLast? hg)
    have hfl : f < (flags ns rr).length := plc_lt (plc_head_le hf).1
    rw [flags_len] at hgl hfl
    have ya : ys[f]? = some ys[f] := List.getElem?_eq_getElem (by omega)
    have yb : ys[g]? = some ys[g] := List.getElem?_eq_getElem (by omega)
    have ta : atI (ivs ys) (f : Int) = some (V.int ys[f]) := atI_nat (by rw [List.getElem?_map, ya]; rfl)
    have tb : atI (ivs ys) (g : Int) = some (V.int ys[g]) := atI_nat (by rw [List.getElem?_map, yb]; rfl)
    refine ⟨t, _, rfl, SqT.of ht, rfl, _, _, rfl, _, _, rfl, rfl, ?_⟩
    refine ⟨_, rfl, _, rfl, y, _, _, _, rfl, rfl, s1.seq hY, tb, _, rfl, _, rfl, y, _, _, _, rfl, rfl, s1.seq hY, ta, _, _, rfl, rfl, ?_⟩
    exact k f g _ _ H1 hf hg ya yb s1
end
end My
set_option maxRecDepth 100000
set_option maxHeartbeats 4000000
namespace My
open PySem L2 PySem.Spec PyProof.Rows
section
variable {X : Cx} {pos : Pos}
/-- a, b, .. = a tuple or a list of that length -/
def gSqA (K : PySem.W.Frag) (n : Nat) (t : TGs) : TG := fun v σ H Q => ∃ a xs, v = .ref a ∧ (SqL K H a xs ∨ SqT K H a xs) ∧ xs.length = n ∧ t xs σ H Q
theorem pg_sqA {es : List Expr} {k : Nat} {t : TGs} {n : Nat} (hc : X.calm = true) (h : PGs X es t)
    (hn : (assignEach es X.env).length = n := by rfl) (hst : (assignEach es X.env).findIdx? (·.1) = none := by rfl) : PG X (.Tuple es k pos) (gSqA X.K n t) :=
  ⟨fun pins s σ H v u Q I r ⟨a, xs, e, hq, hl, hw⟩ => hq.elim (fun q => (pg_lst hc h hn hst).run pins s σ H v u Q I r ⟨a, xs, e, q, hl, hw⟩) (fun q => (pg_tup hc h hn hst).run pins s σ H v u Q I r ⟨a, xs, e, q, hl, hw⟩)⟩
/-- t.index(z), texts -/
def rTIx (K : PySem.W.Frag) : V → List V → Hp → VK → Prop := fun x xs H Q => ∃ p, ∃ ys : List Str, ∃ z j, x = .ref p ∧ xs = [.str z] ∧ SqT K H p (ys.map V.str) ∧ ys[j]? = some z ∧ (∀ m, m < j → ys[m]? ≠ some z) ∧ Q (.int (j : Nat)) H
theorem mt_tIx : MtR X "tuple.index" (rTIx X.K) := mt_tup_index
end
end My
set_option maxRecDepth 100000
set_option maxHeartbeats 4000000
set_option exponentiation.threshold 10000
namespace My
open PySem L2
section
variable {P : Program} {w : World} {K : PySem.W.Frag} {mg : Str → Option Value} {base : Heap} {A : Ad}
def spEnds2 (so sr : Hp → Addr → List V → Prop) : Sp := fun vs H Q _ => ∃ o r ns rr, vs = [.ref o, .ref r] ∧ so H o (sv ns) ∧ sr H r (sv rr) ∧ ns.length ≤ 1000 ∧ rr.length ≤ 1000 ∧ ns.Nodup ∧ rr ≠ [] ∧ (∀ z ∈ rr, z ∈ ns) ∧
  ∀ f g t H', (plc (flags ns rr)).head? = some f → (plc (flags ns rr)).getLast? = some g → Same H H' → H' t = some (.tup [.int ((f : Nat) : Int), .int ((g : Nat) : Int)]) → Q (.ref t) H'
def spTime2 (so sy sr : Hp → Addr → List V → Prop) : Sp := fun vs H Q _ => ∃ o y r ns rr, ∃ ys : List Int, vs = [.ref o, .ref y, .ref r] ∧ so H o (sv ns) ∧ sy H y (ivs ys) ∧ sr H r (sv rr) ∧ ns.length ≤ 1000 ∧ rr.length ≤ 1000 ∧ ns.length ≤ ys.length ∧ ns.Nodup ∧ rr ≠ [] ∧ (∀ z ∈ rr, z ∈ ns) ∧
  ∀ f g a b H', (plc (flags ns rr)).head? = some f → (plc (flags ns rr)).getLast? = some g → ys[f]? = some a → ys[g]? = some b → Same H H' → Q (.int (b - a)) H'
theorem ok_endsLT (T : Txt P K mg A) : FnOk P w K mg base CX0 1 A.a_ends_of A.d_ends_of ["order", "names"] (spEnds2 (SqL K) (SqT K)) := by
  refine T.F_ends_of.ok sc_ends_of (fun vs H Q E h => ?_) (fun cdv A' outer s H vs Q E hr h => ?_)
  · obtain ⟨o, r, ns, rr, rfl, _⟩ := h
    rfl
  · obtain ⟨o, r, ns, rr, rfl, hO, hR, hl, hrl, nd, hne, hin, k⟩ := h
    refine ⟨_, (pss_cons (ps_setLc (i := 2) (own := [("name", 3)]) (g := gName 3) (tt := tYes) rfl sc_ends_of.nd rfl rfl (sw_true rfl rfl rfl (by decide +kernel)) (pi_tup (pv 1)) (blkOk_by (N := ["order", "names", "found", "name"]) (sc := defScope s_ends_of) (by decide +kernel)) (fun _ _ _ _ _ => (pg_name (i := 3) sc_ends_of.nd rfl (Or.inl rfl))) (fun _ _ _ _ _ => pts_nil) (fun _ _ _ _ _ => (show PE _ _ (tBM K "list" (rIndex K) _ _) from (pe_bm PySem.F.plainAttrs_list PySem.F.slot_list_index PySem.F.type_list_index mt_index (pv 0) (pa_cons (pv 3) pa_nil)))))
      (pss_one (ps_ret (pe_tup (pa_cons (pe_callB (cr_min rfl) (by rfl) T.n_min (by decide +kernel) (pa_cons (pv 2) pa_nil)) (pa_cons (pe_callB (cr_max rfl) (by rfl) T.n_max (by decide +kernel) (pa_cons (pv 2) pa_nil)) pa_nil)))))), ?_⟩
    have fl : ∀ l : List Str, (ivs (l.map fun z => ((ixOf ns z : Nat) : Int))).length = l.length := fun l => by rw [List.length_map, List.length_map]
    have mem : ∀ m : Int, m ∈ rr.map (fun z => ((ixOf ns z : Nat) : Int)) ↔ ∃ i : Nat, m = (i : Int) ∧ i ∈ plc (flags ns rr) := fun m => by
      rw [List.mem_map]
      constructor
      · rintro ⟨z, hz, rfl⟩
        exact ⟨ixOf ns z, rfl, plc_mem.mpr ⟨z, ixOf_at (hin z hz), hz⟩⟩
      · rintro ⟨i, rfl, hi⟩
        obtain ⟨z, hz, hm⟩ := plc_mem.mp hi
        exact ⟨z, hm, by rw [ixOf_of nd hz]⟩
    refine ⟨_, rfl, r, rfl, ⟨_, hR⟩, fun D hD => lc_it walk_tup (PvS H D fun i => ivs ((rr.take i).map fun z => ((ixOf ns z : Nat) : Int))) (pv0 hD rfl) (fun i H2 _ q => q.1.tup hR) ?_ ?_⟩
    · rintro i x H3 H4 hi q ⟨rfl, hx⟩
      obtain ⟨z, hz, rfl⟩ := sv_get hx
      have hzn := hin z (List.mem_of_getElem? hz)
      refine ⟨rfl, _, rfl, .inl ⟨rfl, _, q.1.seq hO⟩, _, rfl, o, sv ns, .str z, ixOf ns z, .str z, rfl, rfl, q.1.seq hO, rfl, flat_sv _, by rw [List.getElem?_map, ixOf_at hzn]; rfl, by rw [eqV_str]; exact decide_eq_true rfl, fun m z' hm hz' => ?_, ?_⟩
      · obtain ⟨y, hy, rfl⟩ := sv_get hz'
        rw [eqV_str]
        exact decide_eq_false (ixOf_no hm hy)
      · refine q.push hD ?_ (by rw [fl, List.length_take]; omega)
        show ivs ((rr.take (i + 1)).map _) = _
        rw [take_succ hz, List.map_append]; exact List.map_append
    · rintro H3 ⟨s3, h3⟩
      have h3 : H3 D = some (.lst (ivs ((rr.take (sv rr).length).map fun z => ((ixOf ns z : Nat) : Int)))) := h3
      rw [len_sv, List.take_length] at h3
      have hpos : 0 < (rr.map fun z => ((ixOf ns z : Nat) : Int)).length := by rw [List.length_map]; exact List.length_pos_iff.mpr hne
      refine ⟨_, rfl, D, _, rfl, SqL.of h3, hpos, fun m hm hmin => ?_⟩
      refine ⟨_, rfl, D, _, rfl, SqL.of h3, hpos, fun m2 hm2 hmax => ?_⟩
      obtain ⟨f, rfl, hf⟩ := (mem m).mp hm
      obtain ⟨g, rfl, hg⟩ := (mem m2).mp hm2
      have hne2 : plc (flags ns rr) ≠ [] := fun e => by rw [e] at hf; cases hf
      obtain ⟨f', g', hf', hg', _⟩ := plc_ends hne2
      have a := plc_head_le hf'
      have b := plc_last_ge hg'
      have ef : f = f' := by
        have h1 := a.2 f hf
        have h2 := hmin (f' : Int) ((mem _).mpr ⟨f', rfl, a.1⟩)
        omega
      have eg : g = g' := by
        have h1 := b.2 g hg
        have h2 := hmax (g' : Int) ((mem _).mpr ⟨g', rfl, b.1⟩)
        omega
      subst ef; subst eg
      refine ⟨by show 2 ≤ sizeLine; decide, fun t ht => ?_⟩
      exact k f g t _ hf' hg' (s3.trans (same_new ht)) upd_same
theorem ok_timeLT (T : Txt P K mg A) : FnOk P w K mg base CX0 2 A.a_time_of A.d_time_of ["order", "years", "names"] (spTime2 (SqL K) (SqL K) (SqT K)) := by
  have G_ends_ofLT := ok_endsLT (P := P) (w := w) (base := base) T
  refine T.F_time_of.ok sc_time_of (fun vs H Q E h => ?_) (fun cdv A' outer s H vs Q E hr h => ?_)
  · obtain ⟨o, y, r, ns, rr, ys, rfl, _⟩ := h
    rfl
  · obtain ⟨o, y, r, ns, rr, ys, rfl, hO, hY, hR, hl, hrl, hly, nd, hne, hin, k⟩ := h
    refine ⟨_, (pss_cons (ps_asg (pe_call G_ends_ofLT (hr.mono (by decide)) rfl T.mg_ends_of T.F_ends_of.kp T.b_ends_of .nil pass0 (pa_cons (pv 0) (pa_cons (pv 2) pa_nil))) (pg_tup (by rfl) (pgs_cons (pg_name (i := 3) sc_time_of.nd rfl (Or.inl rfl)) (pgs_cons (pg_name (i := 4) sc_time_of.nd rfl (Or.inl rfl)) pgs_nil))))
      (pss_one (ps_ret (pe_op op_sub (pe_ix ix_list (pv 1) (pv 4) (fun _ _ => rfl)) (pe_ix ix_list (pv 1) (pv 3) (fun _ _ => rfl)))))), ?_⟩
    refine ⟨_, rfl, _, rfl, o, r, ns, rr, rfl, hO, hR, hl, hrl, nd, hne, hin, fun f g t H1 hf hg s1 ht => ?_⟩
    have hgl := plc_lt (List.mem_of_getLast? hg)
    have hfl : f < (flags ns rr).length := plc_lt (plc_head_le hf).1
    rw [flags_len] at hgl hfl
    have ya : ys[f]? = some ys[f] := List.getElem?_eq_getElem (by omega)
    have yb : ys[g]? = some ys[g] := List.getElem?_eq_getElem (by omega)
    have ta : atI (ivs ys) (f : Int) = some (V.int ys[f]) := atI_nat (by rw [List.getElem?_map, ya]; rfl)
    have tb : atI (ivs ys) (g : Int) = some (V.int ys[g]) := atI_nat (by rw [List.getElem?_map, yb]; rfl)
    refine ⟨t, _, rfl, SqT.of ht, rfl, _, _, rfl, _, _, rfl, rfl, ?_⟩
    refine ⟨_, rfl, _, rfl, y, _, _, _, rfl, rfl, s1.seq hY, tb, _, rfl, _, rfl, y, _, _, _, rfl, rfl, s1.seq hY, ta, _, _, rfl, rfl, ?_⟩
    exact k f g _ _ H1 hf hg ya yb s1
theorem ok_endsT (T : Txt P K mg A) : FnOk P w K mg base CX0 1 A.a_ends_of A.d_ends_of ["order", "names"] (spEnds2 DT (SqT K)) := by
  refine T.F_ends_of.ok sc_ends_of (fun vs H Q E h => ?_) (fun cdv A' outer s H vs Q E hr h => ?_)
  · obtain ⟨o, r, ns, rr, rfl, _⟩ := h
    rfl
  · obtain ⟨o, r, ns, rr, rfl, hO, hR, hl, hrl, nd, hne, hin, k⟩ := h
    refine ⟨_, (pss_cons (ps_setLc (i := 2) (own := [("name", 3)]) (g := gName 3) (tt := tYes) rfl sc_ends_of.nd rfl rfl (sw_true rfl rfl rfl (by decide +kernel)) (pi_tup (pv 1)) (blkOk_by (N := ["order", "names", "found", "name"]) (sc := defScope s_ends_of) (by decide +kernel)) (fun _ _ _ _ _ => (pg_name (i := 3) sc_ends_of.nd rfl (Or.inl rfl))) (fun _ _ _ _ _ => pts_nil) (fun _ _ _ _ _ => (show PE _ _ (tBMT (rTIx K) _ _) from (pe_bmT PySem.F.plainAttrs_tuple PySem.F.slot_tuple_index PySem.F.type_tuple_index mt_tIx (pv 0) (pa_cons (pv 3) pa_nil)))))
      (pss_one (ps_ret (pe_tup (pa_cons (pe_callB (cr_min rfl) (by rfl) T.n_min (by decide +kernel) (pa_cons (pv 2) pa_nil)) (pa_cons (pe_callB (cr_max rfl) (by rfl) T.n_max (by decide +kernel) (pa_cons (pv 2) pa_nil)) pa_nil)))))), ?_⟩
    have fl : ∀ l : List Str, (ivs (l.map fun z => ((ixOf ns z : Nat) : Int))).length = l.length := fun l => by rw [List.length_map, List.length_map]
    have mem : ∀ m : Int, m ∈ rr.map (fun z => ((ixOf ns z : Nat) : Int)) ↔ ∃ i : Nat, m = (i : Int) ∧ i ∈ plc (flags ns rr) := fun m => by
      rw [List.mem_map]
      constructor
      · rintro ⟨z, hz, rfl⟩
        exact ⟨ixOf ns z, rfl, plc_mem.mpr ⟨z, ixOf_at (hin z hz), hz⟩⟩
      · rintro ⟨i, rfl, hi⟩
        obtain ⟨z, hz, hm⟩ := plc_mem.mp hi
        exact ⟨z, hm, by rw [ixOf_of nd hz]⟩
    refine ⟨_, rfl, r, rfl, ⟨_, hR⟩, fun D hD => lc_it walk_tup (PvS H D fun i => ivs ((rr.take i).map fun z => ((ixOf ns z : Nat) : Int))) (pv0 hD rfl) (fun i H2 _ q => q.1.tup hR) ?_ ?_⟩
    · rintro i x H3 H4 hi q ⟨rfl, hx⟩
      obtain ⟨z, hz, rfl⟩ := sv_get hx
      have hzn := hin z (List.mem_of_getElem? hz)
      refine ⟨rfl, _, rfl, ⟨o, _, rfl, hO.same q.1⟩, _, rfl, o, ns, z, ixOf ns z, rfl, rfl, (hO.same q.1).sq, ixOf_at hzn, fun m hm e => ixOf_no hm e rfl, ?_⟩
      · refine q.push hD ?_ (by rw [fl, List.length_take]; omega)
        show ivs ((rr.take (i + 1)).map _) = _
        rw [take_succ hz, List.map_append]; exact List.map_append
    · rintro H3 ⟨s3, h3⟩
      have h3 : H3 D = some (.lst (ivs ((rr.take (sv rr).length).map fun z => ((ixOf ns z : Nat) : Int)))) := h3
      rw [len_sv, List.take_length] at h3
      have hpos : 0 < (rr.map fun z => ((ixOf ns z : Nat) : Int)).length := by rw [List.length_map]; exact List.length_pos_iff.mpr hne
      refine ⟨_, rfl, D, _, rfl, SqL.of h3, hpos, fun m hm hmin => ?_⟩
      refine ⟨_, rfl, D, _, rfl, SqL.of h3, hpos, fun m2 hm2 hmax => ?_⟩
      obtain ⟨f, rfl, hf⟩ := (mem m).mp hm
      obtain ⟨g, rfl, hg⟩ := (mem m2).mp hm2
      have hne2 : plc (flags ns rr) ≠ [] := fun e => by rw [e] at hf; cases hf
      obtain ⟨f', g', hf', hg', _⟩ := plc_ends hne2
      have a := plc_head_le hf'
      have b := plc_last_ge hg'
      have ef : f = f' := by
        have h1 := a.2 f hf
        have h2 := hmin (f' : Int) ((mem _).mpr ⟨f', rfl, a.1⟩)
        omega
      have eg : g = g' := by
        have h1 := b.2 g hg
        have h2 := hmax (g' : Int) ((mem _).mpr ⟨g', rfl, b.1⟩)
        omega
      subst ef; subst eg
      refine ⟨by show 2 ≤ sizeLine; decide, fun t ht => ?_⟩
      exact k f g t _ hf' hg' (s3.trans (same_new ht)) upd_same
theorem ok_timeT (T : Txt P K mg A) : FnOk P w K mg base CX0 2 A.a_time_of A.d_time_of ["order", "years", "names"] (spTime2 DT (SqT K) (SqT K)) := by
  have G_ends_ofT := ok_endsT (P := P) (w := w) (base := base) T
  refine T.F_time_of.ok sc_time_of (fun vs H Q E h => ?_) (fun cdv A' outer s H vs Q E hr h => ?_)
  · obtain ⟨o, y, r, ns, rr, ys, rfl, _⟩ := h
    rfl
  · obtain ⟨o, y, r, ns, rr, ys, rfl, hO, hY, hR, hl, hrl, hly, nd, hne, hin, k⟩ := h
    refine ⟨_, (pss_cons (ps_asg (pe_call G_ends_ofT (hr.mono (by decide)) rfl T.mg_ends_of T.F_ends_of.kp T.b_ends_of .nil pass0 (pa_cons (pv 0) (pa_cons (pv 2) pa_nil))) (pg_tup (by rfl) (pgs_cons (pg_name (i := 3) sc_time_of.nd rfl (Or.inl rfl)) (pgs_cons (pg_name (i := 4) sc_time_of.nd rfl (Or.inl rfl)) pgs_nil))))
      (pss_one (ps_ret (pe_op op_sub (pe_ix ix_tup (pv 1) (pv 4) (fun _ _ => rfl)) (pe_ix ix_tup (pv 1) (pv 3) (fun _ _ => rfl)))))), ?_⟩
    refine ⟨_, rfl, _, rfl, o, r, ns, rr, rfl, hO, hR, hl, hrl, nd, hne, hin, fun f g t H1 hf hg s1 ht => ?_⟩
    have hgl := plc_lt (List.mem_of_getLast? hg)
    have hfl : f < (flags ns rr).length := plc_lt (plc_head_le hf).1
    rw [flags_len] at hgl hfl
    have ya : ys[f]? = some ys[f] := List.getElem?_eq_getElem (by omega)
    have yb : ys[g]? = some ys[g] := List.getElem?_eq_getElem (by omega)
    have ta : atI (ivs ys) (f : Int) = some (V.int ys[f]) := atI_nat (by rw [List.getElem?_map, ya]; rfl)
    have tb : atI (ivs ys) (g : Int) = some (V.int ys[g]) := atI_nat (by rw [List.getElem?_map, yb]; rfl)
    refine ⟨t, _, rfl, SqT.of ht, rfl, _, _, rfl, _, _, rfl, rfl, ?_⟩
    refine ⟨_, rfl, _, rfl, y, _, _, _, rfl, rfl, s1.tup hY, tb, _, rfl, _, rfl, y, _, _, _, rfl, rfl, s1.tup hY, ta, _, _, rfl, rfl, ?_⟩
    exact k f g _ _ H1 hf hg ya yb s1
end
end My
set_option maxRecDepth 100000
set_option maxHeartbeats 4000000
set_option exponentiation.threshold 10000
namespace My
open PySem L2
abbrev TSp := Int × Int × Option Int
def v3 (s : TSp) : List V := [.int s.1, .int s.2.1, optI s.2.2]
/-- at ts stand the told spans ss -/
structure Tl (sq : Hp → Addr → List V → Prop) (H : Hp) (ts : List Addr) (ss : List TSp) : Prop where
  len : ts.length = ss.length
  at_ : ∀ (i : Nat) (t : Addr) (s : TSp), ts[i]? = some t → ss[i]? = some s → sq H t (v3 s)
theorem Tl.imp {sq sq' : Hp → Addr → List V → Prop} {H H' : Hp} {ts : List Addr} {ss : List TSp} (h : Tl sq H ts ss) (f : ∀ t s, sq H t (v3 s) → sq' H' t (v3 s)) : Tl sq' H' ts ss := ⟨h.len, fun i t s a b => f t s (h.at_ i t s a b)⟩
theorem Tl.get {sq : Hp → Addr → List V → Prop} {H : Hp} {ts : List Addr} {ss : List TSp} (h : Tl sq H ts ss) {i : Nat} {t : Addr} (hi : ts[i]? = some t) : ∃ s, ss[i]? = some s ∧ sq H t (v3 s) := by
  have hx : i < ss.length := by rw [← h.len]; exact (List.getElem?_eq_some_iff.mp hi).1
  exact ⟨ss[i], List.getElem?_eq_getElem hx, h.at_ i _ _ hi (List.getElem?_eq_getElem hx)⟩
theorem Tl.ex {sq : Hp → Addr → List V → Prop} {H : Hp} {ts : List Addr} {ss : List TSp} (h : Tl sq H ts ss) {i : Nat} {s : TSp} (hi : ss[i]? = some s) : ∃ t, ts[i]? = some t ∧ sq H t (v3 s) := by
  have hx : i < ts.length := by rw [h.len]; exact (List.getElem?_eq_some_iff.mp hi).1
  exact ⟨ts[i], List.getElem?_eq_getElem hx, h.at_ i _ _ (List.getElem?_eq_getElem hx) hi⟩
theorem Tl.nil {sq : Hp → Addr → List V → Prop} {H : Hp} : Tl sq H [] [] := ⟨rfl, fun i t s a => by simp at a⟩
theorem Tl.app {sq : Hp → Addr → List V → Prop} {H : Hp} {ts us : List Addr} {ss rs : List TSp} (h : Tl sq H ts ss) (g : Tl sq H us rs) : Tl sq H (ts ++ us) (ss ++ rs) := by
  refine ⟨by rw [List.length_append, List.length_append, h.len, g.len], fun i t s a b => ?_⟩
  by_cases hi : i < ts.length
  · rw [List.getElem?_append_left hi] at a
    rw [List.getElem?_append_left (by rw [← h.len]; exact hi)] at b
    exact h.at_ i t s a b
  · rw [List.getElem?_append_right (by omega)] at a
    rw [List.getElem?_append_right (by rw [← h.len]; omega), ← h.len] at b
    exact g.at_ _ t s a b
theorem Tl.one {sq : Hp → Addr → List V → Prop} {H : Hp} {t : Addr} {s : TSp} (h : sq H t (v3 s)) : Tl sq H [t] [s] := ⟨rfl, fun i u r a b => by
  cases i with
  | zero => cases a; cases b; exact h
  | succ n => simp at a⟩
theorem sqt_updL {K : PySem.W.Frag} {H : Hp} {a b : Addr} {xs ys : List V} {o : HO} (h : SqT K H a xs) (hb : H b = some (.lst ys)) : SqT K (upd H b o) a xs := by
  rcases h with (r | ⟨c, r⟩) | z
  · exact .inl (.inl (by rw [upd_ne (ne_of r hb (fun z => nomatch z))]; exact r))
  · exact .inl (.inr ⟨c, by rw [upd_ne (ne_of r hb (fun z => nomatch z))]; exact r⟩)
  · exact .inr z
theorem Tb.upI {C D : Addr} {H : Hp} {p b dx : Addr} {cs : List Str} {rs : List (List Str)} {o : HO} (h : Tb C H p cs rs) (hb : H b = some (.ins D dx [])) : Tb C (upd H b o) p cs rs := by
  obtain ⟨dxt, ct, rt, ts, h1, h2, h3, h4⟩ := h
  have nb : ∀ a u, H a = some u → u ≠ .ins D dx [] → upd H b o a = some u := fun a u e hne => by
    rw [upd_ne (fun z => hne (by rw [z, hb] at e; exact (Option.some.inj e).symm))]; exact e
  refine ⟨dxt, ct, rt, ts, nb _ _ h1 (fun z => ?_), nb _ _ h2 (fun z => nomatch z), nb _ _ h3 (fun z => nomatch z), ⟨h4.len, fun i t x a b => nb _ _ (h4.at_ i t x a b) (fun z => nomatch z)⟩⟩
  have e : fldsT ct rt = [] := by injection z
  have := fldsT_rows ct rt
  rw [e] at this; cases this
theorem sqt_updI {K : PySem.W.Frag} {H : Hp} {a b C dx : Addr} {xs : List V} {f : List (Str × V)} {o : HO} (h : SqT K H a xs) (hb : H b = some (.ins C dx f)) : SqT K (upd H b o) a xs := by
  rcases h with (r | ⟨c, r⟩) | z
  · exact .inl (.inl (by rw [upd_ne (ne_of r hb (fun z => nomatch z))]; exact r))
  · exact .inl (.inr ⟨c, by rw [upd_ne (ne_of r hb (fun z => nomatch z))]; exact r⟩)
  · exact .inr z
theorem Tb.upP {C D : Addr} {H : Hp} {p b dx : Addr} {cs : List Str} {rs : List (List Str)} {o : HO} {x : Str} {v : V} (h : Tb C H p cs rs) (hb : H b = some (.ins D dx [(x, v)])) : Tb C (upd H b o) p cs rs := by
  obtain ⟨dxt, ct, rt, ts, h1, h2, h3, h4⟩ := h
  have nb : ∀ a u, H a = some u → u ≠ .ins D dx [(x, v)] → upd H b o a = some u := fun a u e hne => by
    rw [upd_ne (fun z => hne (by rw [z, hb] at e; exact (Option.some.inj e).symm))]; exact e
  refine ⟨dxt, ct, rt, ts, nb _ _ h1 (fun z => ?_), nb _ _ h2 (fun z => nomatch z), nb _ _ h3 (fun z => nomatch z), ⟨h4.len, fun i t x a b => nb _ _ (h4.at_ i t x a b) (fun z => nomatch z)⟩⟩
  have e : fldsT ct rt = [(x, v)] := by injection z
  have hx : ∀ k w, ([(x, v)] : List (Str × V)).lookup k = some w → k = x := fun k w h => by
    simp only [List.lookup] at h
    split at h
    · rename_i q; exact eq_of_beq q
    · cases h
  have a := hx "columns" _ (e ▸ fldsT_columns ct rt)
  have b := hx "rows" _ (e ▸ fldsT_rows ct rt)
  exact absurd (a.trans b.symm) (by decide +kernel)
def okSpan (cs : List Str) (rs : List (List Str)) (s : TSp) : Bool := hasTime cs rs s.1 && areTimes s.2.1 s.2.2
def firstI (n : Nat) (f : Nat → Bool) : Option Nat := (List.range n).find? f
theorem firstI_some {n : Nat} {f : Nat → Bool} {i : Nat} (hi : i < n) (h1 : f i = true) (h2 : ∀ j, j < i → f j = false) : firstI n f = some i := by
  unfold firstI
  rw [List.find?_range_eq_some]
  exact ⟨h1, List.mem_range.mpr hi, fun j hj => by rw [h2 j hj]; rfl⟩
theorem firstI_none {n : Nat} {f : Nat → Bool} (h2 : ∀ j, j < n → f j = false) : firstI n f = none := by
  unfold firstI
  rw [List.find?_eq_none]
  intro j hj
  rw [h2 j (List.mem_range.mp hj)]
  exact Bool.false_ne_true
theorem firstI_no {n : Nat} {f : Nat → Bool} (h : firstI n f = none) : ∀ j, j < n → f j = false := fun j hj => by
  unfold firstI at h
  rw [List.find?_eq_none] at h
  have := h j (List.mem_range.mpr hj)
  cases e : f j with
  | true => exact absurd e this
  | false => rfl
def badSp (cs : List Str) (rs : List (List Str)) (ss : List TSp) (i : Nat) : Bool := !okSpan cs rs (ss.getD i (0, 0, none))
def spanFault (cs : List Str) (rs : List (List Str)) (ss : List TSp) : Option Nat := if 24 < ss.length then some 24 else firstI ss.length (badSp cs rs ss)
theorem badSp_at {cs : List Str} {rs : List (List Str)} {ss : List TSp} {i : Nat} {s : TSp} (h : ss[i]? = some s) : badSp cs rs ss i = !okSpan cs rs s := by
  unfold badSp; rw [List.getD_eq_getElem?_getD, h]; rfl
def fldsS (tb ut : Addr) : List (Str × V) := putF "told" (.ref ut) (putF "table" (.ref tb) [])
theorem fldsS_table (tb ut : Addr) : (fldsS tb ut).lookup ("table" : Str) = some (.ref tb) := by
  unfold fldsS; rw [lookup_putF, if_neg (by decide +kernel), lookup_putF, if_pos rfl]
theorem fldsS_told (tb ut : Addr) : (fldsS tb ut).lookup ("told" : Str) = some (.ref ut) := by
  unfold fldsS; rw [lookup_putF, if_pos rfl]
def Sps (C CT : Addr) (K : PySem.W.Frag) (H : Hp) (p tb : Addr) (cs : List Str) (rs : List (List Str)) (ss : List TSp) : Prop := ∃ dx ut us, H p = some (.ins C dx (fldsS tb ut)) ∧ Tb CT H tb cs rs ∧ H ut = some (.tup (us.map V.ref)) ∧ Tl (SqT K) H us ss
theorem Sps.same {C CT : Addr} {K : PySem.W.Frag} {H H' : Hp} {p tb : Addr} {cs : List Str} {rs : List (List Str)} {ss : List TSp} (h : Sps C CT K H p tb cs rs ss) (e : Same H H') : Sps C CT K H' p tb cs rs ss :=
  let ⟨dx, ut, us, h1, h2, h3, h4⟩ := h; ⟨dx, ut, us, e _ _ h1, h2.same e, e _ _ h3, h4.imp fun t s q => e.tup q⟩
section
variable {P : Program} {w : World} {K : PySem.W.Frag} {mg : Str → Option Value} {base : Heap} {A : Ad}
def spSpans (C CT B : Addr) (K : PySem.W.Frag) : Sp := fun vs H Q E => ∃ p tb l dx cs rs ts ss, vs = [.ref p, .ref tb, .ref l] ∧ H p = some (.ins C dx []) ∧ Tb CT H tb cs rs ∧ rs.length ≤ 48 ∧ SqL K H l (ts.map V.ref) ∧ Tl (SqA K) H ts ss ∧ ss.length ≤ 1000 ∧
  (∀ i, spanFault cs rs ss = some i → ∀ d H', Same H H' → H' d = some (.xd [("index", .int (i : Nat))]) → E (.ref B) (some d) H') ∧
  (spanFault cs rs ss = none → ∀ H', (∀ b o, b ≠ p → H b = some o → H' b = some o) → Sps C CT K H' p tb cs rs ss → Q .non H')
theorem ok_spansX (T : Txt P K mg A) : FnOk P w K mg base (L2.CX P w) 4 A.a_Spans_init A.d_Spans_init ["self", "table", "told"] (spSpans A.C_Spans A.C_Table A.C_BadSpan K) := by
  have G_has_time := ok_hasTime (P := P) (w := w) (base := base) T
  have G_are_times := ok_areTimes (P := P) (w := w) (base := base) T
  have G_BadSpan_init := ok_BadSpan (P := P) (w := w) (base := base) T
  refine funX T.F_Spans_init sc_Spans_init (fun vs H Q E h => ?_) (fun cdv A' outer s H vs Q E hr h => ?_)
  · obtain ⟨p, tb, l, dx, cs, rs, ts, ss, rfl, _⟩ := h
    rfl
  · obtain ⟨p, tb, l, dx, cs, rs, ts, ss, rfl, hp, hT, hrl, hL, hs, hsl, ke, kq⟩ := h
    refine ⟨_, (pss_cons (ps_if (pt_cmpR op_gt (pe_callB call_len_seq (by rfl) T.n_len (by decide +kernel) (pa_cons (pv 2) pa_nil)) (pe_glob (v := .int 24) rfl T.mg_MOST_SPANS.choose_spec ⟨_, rfl⟩) (nomark _)) (pss_one (ps_raise rfl (takes_of rfl rfl rfl rfl) (pmk_oex T.SC_BadSpan.ox T.ii_BadSpan T.ti_BadSpan G_BadSpan_init (hr.mono (by decide)) T.b_BadSpan_init .nil pass0 rfl T.mg_BadSpan (pa_cons (pe_glob (v := .int 24) rfl T.mg_MOST_SPANS.choose_spec ⟨_, rfl⟩) pa_nil)))) pss_nil)
      (pss_cons (ps_for (passes_of rfl) rfl (pi_enum (by rfl) T.n_enumerate (pa_cons (pv 2) pa_nil)) (pg_tup (by rfl) (pgs_cons (pg_name (i := 3) sc_Spans_init.nd rfl (Or.inl rfl)) (pgs_cons (pg_sqA (by rfl) (pgs_cons (pg_name (i := 4) sc_Spans_init.nd rfl (Or.inl rfl)) (pgs_cons (pg_name (i := 5) sc_Spans_init.nd rfl (Or.inl rfl)) (pgs_cons (pg_name (i := 6) sc_Spans_init.nd rfl (Or.inl rfl)) pgs_nil)))) pgs_nil)))
        (pss_one (ps_if (pt_not (PW.pt (pw_and (pt_val (pe_call G_has_time (hr.mono (by decide)) rfl T.mg_has_time T.F_has_time.kp T.b_has_time .nil pass0 (pa_cons (pv 1) (pa_cons (pv 4) pa_nil)))) (pw_and1 (pt_val (pe_call G_are_times (hr.mono (by decide)) rfl T.mg_are_times T.F_are_times.kp T.b_are_times .nil pass0 (pa_cons (pv 5) (pa_cons (pv 6) pa_nil)))))))) (pss_one (ps_raise rfl (takes_of rfl rfl rfl rfl) (pmk_oex T.SC_BadSpan.ox T.ii_BadSpan T.ti_BadSpan G_BadSpan_init (hr.mono (by decide)) T.b_BadSpan_init .nil pass0 rfl T.mg_BadSpan (pa_cons (pv 3) pa_nil)))) pss_nil)))
      (pss_cons (ps_fld (pv 0) (pv 1) rfl)
      (pss_one (ps_fld (pv 0) (pe_callTy (show CallR _ _ (rTupOf K) from call_tuple_of) (by rfl) T.n_tuple (by decide +kernel) (pa_cons (pe_lc (own := [("span", 7)]) (g := gName 7) (tt := tYes) rfl sc_Spans_init.nd (pi_list (pv 2)) (blkOk_by (N := ["self", "table", "told", "index", "number", "least", "most", "span"]) (sc := defScope s_Spans_init) (by decide +kernel)) (fun _ _ _ _ _ => (pg_name (i := 7) sc_Spans_init.nd rfl (Or.inl rfl))) (fun _ _ _ _ _ => pts_nil) (fun _ _ _ _ _ => (pe_callTy (show CallR _ _ (rTupOf K) from call_tuple_of) (by rfl) T.n_tuple (by decide +kernel) (pa_cons (pv 7) pa_nil)))) pa_nil)) rfl))))), ?_⟩
    have raise_ : ∀ (i : Nat) H2, i ≤ 1000 → Same H H2 → spanFault cs rs ss = some i → ∀ a, H2 a = none → True := fun _ _ _ _ _ _ _ => trivial
    refine ⟨_, rfl, l, _, rfl, .inl hL, _, _, rfl, rfl, _, rfl, ?_⟩
    by_cases h24 : 24 < ss.length
    · have hf : spanFault cs rs ss = some 24 := by unfold spanFault; rw [if_pos h24]
      refine itY (by rw [List.length_map, hs.len]; omega) ⟨(by decide : 1 ≤ 1000), fun a ha => ⟨a, _, rfl, ⟨_, rfl, by decide⟩, upd_same, fun d hd hne => ⟨rfl, d, _, upd_same, by rw [upd_ne hne, upd_same], by rw [upd_ne hne] at hd; exact hd, ?_⟩⟩⟩
      rw [upd_ne hne] at hd
      exact ke 24 hf d _ (exc_same ha hd) upd_same
    · refine itN (by rw [List.length_map, hs.len]; omega) ?_
      have sf : spanFault cs rs ss = firstI ss.length (badSp cs rs ss) := by unfold spanFault; rw [if_neg h24]
      refine ⟨_, rfl, l, _, rfl, hL, for_it walk_enum (fun i σ H2 => Same H H2 ∧ (∀ j, j < i → badSp cs rs ss j = false) ∧ ∃ u1 u2 u3 u4 u5 : Option V, σ = [some (.ref p), some (.ref tb), some (.ref l), u1, u2, u3, u4, u5]) ⟨Same.refl _, fun j hj => absurd hj (Nat.not_lt_zero _), none, none, none, none, none, rfl⟩ (fun i σ H2 _ q => q.1.seq hL) ?_ ?_⟩
      · rintro i x σ H2 H3 hi ⟨sm, hb, u1, u2, u3, u4, u5, rfl⟩ ⟨t, _, _, rfl, ht, rfl, ⟨⟩, hx⟩
        obtain ⟨b, hb2, rfl⟩ := refs_get hx
        obtain ⟨s0, hs0, ho⟩ := hs.get hb2
        have hil := (List.getElem?_eq_some_iff.mp hs0).1
        have s3 : Same H (upd H2 t (.tup [.int (i : Nat), .ref b])) := sm.trans (same_new ht)
        obtain ⟨sn, sl, smo⟩ := s0
        refine ⟨t, _, rfl, SqT.of upd_same, rfl, _, _, rfl, _, _, rfl, ⟨b, _, rfl, s3.sqa ho, rfl, _, _, rfl, _, _, rfl, _, _, rfl, rfl, rfl, ?_⟩⟩
        refine ⟨_, rfl, _, rfl, tb, sn, cs, rs, rfl, hT.same s3, hrl, fun H4 s4 => ?_⟩
        have s4 := s3.trans s4
        have bad : badSp cs rs ss i = !okSpan cs rs (sn, sl, smo) := badSp_at hs0
        have ret : okSpan cs rs (sn, sl, smo) = false → ∀ (a d : Addr) (H5 : Hp), Same H H5 → H5 d = some (.xd [("index", .int (i : Nat))]) → E (.ref A.C_BadSpan) (some d) H5 := fun hf a d H5 s5 hd => ke i (by rw [sf]; exact firstI_some hil (by rw [bad, hf]; rfl) hb) d H5 s5 hd
        have go : okSpan cs rs (sn, sl, smo) = true → ∀ j, j < i + 1 → badSp cs rs ss j = false := fun h j hj => by
          rcases Nat.lt_succ_iff_lt_or_eq.mp hj with q | q
          · exact hb j q
          · rw [q, bad, h]; rfl
        cases hh : hasTime cs rs sn with
        | false =>
          have hk : okSpan cs rs (sn, sl, smo) = false := by unfold okSpan; rw [hh]; rfl
          refine ⟨_, rfl, ifF rfl ⟨_, rfl, (by decide : 1 ≤ 1000), fun a ha => ⟨a, _, rfl, ⟨_, rfl, by rw [Int.natAbs_natCast]; omega⟩, upd_same, fun d hd hne => ⟨rfl, d, _, upd_same, by rw [upd_ne hne, upd_same], by rw [upd_ne hne] at hd; exact hd, ?_⟩⟩⟩⟩
          rw [upd_ne hne] at hd
          exact ret hk a d _ (s4.trans (exc_same ha hd)) upd_same
        | true =>
          refine ⟨_, rfl, ifT rfl ⟨_, rfl, _, rfl, sl, smo, rfl, ?_⟩⟩
          have hk : okSpan cs rs (sn, sl, smo) = areTimes sl smo := by unfold okSpan; rw [hh]; rfl
          cases ha : areTimes sl smo with
          | false =>
            refine ⟨_, rfl, ifT rfl ⟨_, rfl, (by decide : 1 ≤ 1000), fun a ha2 => ⟨a, _, rfl, ⟨_, rfl, by rw [Int.natAbs_natCast]; omega⟩, upd_same, fun d hd hne => ⟨rfl, d, _, upd_same, by rw [upd_ne hne, upd_same], by rw [upd_ne hne] at hd; exact hd, ?_⟩⟩⟩⟩
            rw [upd_ne hne] at hd
            exact ret (by rw [hk, ha]) a d _ (s4.trans (exc_same ha2 hd)) upd_same
          | true =>
            exact ⟨_, rfl, ifF rfl ⟨s4, go (by rw [hk, ha]), _, _, _, _, _, rfl⟩⟩
      · rintro σ H2 ⟨sm, hb, u1, u2, u3, u4, u5, rfl⟩
        have sf0 : spanFault cs rs ss = none := by
          rw [sf]
          exact firstI_none fun j hj => hb j (by rw [List.length_map, hs.len]; exact hj)
        have hp2 := sm _ _ hp
        refine ⟨_, rfl, _, rfl, p, _, dx, [], rfl, hp2, T.cl_Spans, T.n_Spans_table, (by show 0 < 1000; decide), ?_⟩
        generalize hX : upd H2 p _ = H3
        have hp3 : H3 p = some (.ins A.C_Spans dx (putF "table" (.ref tb) [])) := by rw [← hX]; exact upd_same
        have sm3 : ∀ b o, b ≠ p → H b = some o → H3 b = some o := fun b o hb e => by
          rw [← hX, upd_ne hb]; exact sm _ _ e
        have h3 : SqL K H3 l (ts.map V.ref) := by
          rw [← hX]; exact seq_upd (sm.seq hL) hp2 (fun xs z => nomatch z) (fun o u z => nomatch z)
        have hs3 : Tl (SqA K) H3 ts ss := hs.imp fun t s q => by rw [← hX]; exact sqa_upd (sm.sqa q) hp2
        have hT3 : Tb A.C_Table H3 tb cs rs := by rw [← hX]; exact (hT.same sm).upI hp2
        clear hX
        have hlk : (putF "table" (.ref tb) ([] : List (Str × V))).length = 1 := rfl
        refine ⟨_, rfl, l, rfl, ⟨_, h3⟩, fun D hD => lc_it walk_list (fun i H4 => Same H3 H4 ∧ ∃ us : List Addr, H4 D = some (.lst (us.map V.ref)) ∧ Tl (SqT K) H4 us (ss.take i)) ⟨same_new hD, [], upd_same, Tl.nil⟩ (fun i H4 _ q => q.1.seq h3) ?_ ?_⟩
        · rintro i x H4 H5 hi ⟨s4, us, hd4, hl4⟩ ⟨rfl, hx⟩
          obtain ⟨b, hb2, rfl⟩ := refs_get hx
          obtain ⟨y, hy, ho⟩ := hs3.get hb2
          refine ⟨rfl, _, rfl, ?_⟩
          dsimp only [tNil]
          refine tupO (K := K) (s4.sqa ho) fun t H6 s6 ht => ?_
          have hd6 := s6 _ _ hd4
          refine ⟨_, hd6, small_int (by rw [List.length_map, hl4.len, List.length_take]; omega), fun c o e => ?_, us ++ [t], ?_, ?_⟩
          · rw [upd_ne (ne_of_none e hD)]
            exact s6 _ _ (s4 _ _ e)
          · rw [List.map_append]; exact upd_same
          · rw [take_succ hy]
            exact ((hl4.imp fun t s q => s6.tup q).app (Tl.one ht)).imp fun t s q => sqt_updL q hd6
        · rintro H4 ⟨s4, us, hd4, hl4⟩
          rw [List.length_map, hs.len, List.take_length] at hl4
          refine ⟨D, _, rfl, .inl ⟨SqL.of hd4, fun rt hrt => ?_⟩⟩
          have hp4 := s4 _ _ hp3
          have hp5 : upd H4 rt (.tup (us.map V.ref)) p = some (.ins A.C_Spans dx (putF "table" (.ref tb) [])) := by rw [upd_ne (ne_of_none hp4 hrt)]; exact hp4
          refine ⟨_, rfl, p, _, dx, _, rfl, hp5, T.cl_Spans, T.n_Spans_told, (by show 1 < 1000; decide), ?_⟩
          have nrp : rt ≠ p := (ne_of_none hp4 hrt).symm
          have s45 := s4.trans (same_new (o := .tup (us.map V.ref)) hrt)
          have hu5 := upd_same (H := H4) (a := rt) (o := .tup (us.map V.ref))
          have hl5 := hl4.imp fun t s q => (same_new (o := .tup (us.map V.ref)) hrt).tup q
          generalize upd H4 rt _ = H5 at hp5 s45 hu5 hl5 ⊢
          refine kq sf0 _ (fun b o hb e => ?_) ⟨dx, rt, us, upd_same, ?_, ?_, ?_⟩
          · rw [upd_ne hb]
            exact s45 _ _ (sm3 b o hb e)
          · exact (hT3.same s45).upP hp5
          · rw [upd_ne nrp]; exact hu5
          · exact hl5.imp fun t s q => sqt_updI q hp5
end
end My
set_option maxRecDepth 100000
set_option maxHeartbeats 4000000
set_option exponentiation.threshold 10000
namespace My
open PySem L2
/-- what check_years says -/
inductive Fd
  | order (i : Nat)
  | layout
  | years (i : Nat)
  | span (i : Nat)
  | ok
def timeZ (ns : List Str) (ys : List Int) (r : List Str) : Int := ys.getD ((plc (flags ns r)).getLast?.getD 0) 0 - ys.getD ((plc (flags ns r)).head?.getD 0) 0
theorem timeZ_at {ns : List Str} {ys : List Int} {r : List Str} {f g : Nat} {a b : Int} (hf : (plc (flags ns r)).head? = some f) (hg : (plc (flags ns r)).getLast? = some g) (ha : ys[f]? = some a) (hb : ys[g]? = some b) : timeZ ns ys r = b - a := by
  unfold timeZ
  rw [hf, hg]
  show ys.getD g 0 - ys.getD f 0 = _
  rw [List.getD_eq_getElem?_getD, List.getD_eq_getElem?_getD, ha, hb]; rfl
def moreB (t : Int) : Option Int → Bool
  | none => false
  | some m => decide (m < t)
def brk (ns : List Str) (ys : List Int) (rs : List (List Str)) (s : TSp) : Bool := decide (timeZ ns ys (rs.getD s.1.toNat []) < s.2.1) || moreB (timeZ ns ys (rs.getD s.1.toNat [])) s.2.2
def brkAt (ns : List Str) (ys : List Int) (rs : List (List Str)) (ss : List TSp) (i : Nat) : Bool := brk ns ys rs (ss.getD i (0, 0, none))
theorem brkAt_at {ns : List Str} {ys : List Int} {rs : List (List Str)} {ss : List TSp} {i : Nat} {s : TSp} (h : ss[i]? = some s) : brkAt ns ys rs ss i = brk ns ys rs s := by
  unfold brkAt; rw [List.getD_eq_getElem?_getD, h]; rfl
def anyB (ns : List Str) (rs : List (List Str)) : Bool := rs.any fun r => decide (1 < runs (flags ns r))
def dueF (cs : List Str) (rs : List (List Str)) (ss : List TSp) (ns : List Str) (ys : List Int) : Fd :=
  match fault cs ns with
  | some i => .order i
  | none => match anyB ns rs with
    | true => .layout
    | false => match yearFault ns.length ys with
      | some i => .years i
      | none => match firstI ss.length (brkAt ns ys rs ss) with
        | some i => .span i
        | none => .ok
section
variable {cs : List Str} {rs : List (List Str)} {ss : List TSp} {ns : List Str} {ys : List Int}
theorem due_order {i : Nat} (h : fault cs ns = some i) : dueF cs rs ss ns ys = .order i := by unfold dueF; rw [h]
theorem due_layout (h : fault cs ns = none) (h2 : anyB ns rs = true) : dueF cs rs ss ns ys = .layout := by unfold dueF; rw [h, h2]
theorem due_years {i : Nat} (h : fault cs ns = none) (h2 : anyB ns rs = false) (h3 : yearFault ns.length ys = some i) : dueF cs rs ss ns ys = .years i := by unfold dueF; rw [h, h2, h3]
theorem due_span {i : Nat} (h : fault cs ns = none) (h2 : anyB ns rs = false) (h3 : yearFault ns.length ys = none) (h4 : firstI ss.length (brkAt ns ys rs ss) = some i) : dueF cs rs ss ns ys = .span i := by unfold dueF; rw [h, h2, h3]; show (match firstI ss.length (brkAt ns ys rs ss) with | some i => Fd.span i | none => .ok) = _; rw [h4]
theorem due_ok (h : fault cs ns = none) (h2 : anyB ns rs = false) (h3 : yearFault ns.length ys = none) (h4 : firstI ss.length (brkAt ns ys rs ss) = none) : dueF cs rs ss ns ys = .ok := by unfold dueF; rw [h, h2, h3]; show (match firstI ss.length (brkAt ns ys rs ss) with | some i => Fd.span i | none => .ok) = _; rw [h4]
end
theorem flags_canon {ns cs r : List Str} (h : ∀ z ∈ ns, z ∈ cs) : flags ns (canon cs r) = flags ns r := by
  unfold flags
  refine List.map_congr_left fun z hz => ?_
  exact decide_eq_decide.mpr ⟨fun q => (mem_canon.mp q).2, fun q => mem_canon.mpr ⟨h z hz, q⟩⟩
theorem nums_zero {f : List Str → Bool} {rs : List (List Str)} : (nums f rs).length = 0 ↔ rs.any f = false := by
  unfold nums
  rw [List.length_eq_zero_iff, List.filter_eq_nil_iff, List.any_eq_false]
  constructor
  · intro h r hr
    obtain ⟨i, hi, e⟩ := List.getElem_of_mem hr
    have := h i (List.mem_range.mpr hi)
    rw [List.getD_eq_getElem?_getD, List.getElem?_eq_getElem hi, e] at this
    exact this
  · intro h i hi
    rw [List.mem_range] at hi
    rw [List.getD_eq_getElem?_getD, List.getElem?_eq_getElem hi]
    exact h _ (List.getElem_mem hi)
theorem lay_any {ns cs : List Str} {rs : List (List Str)} (h : ∀ z ∈ ns, z ∈ cs) : decide ((nums (fun r => decide (1 < rn ns cs r)) rs).length = 0) = !anyB ns rs := by
  have e : (rs.any fun r => decide (1 < rn ns cs r)) = anyB ns rs := by
    unfold anyB
    congr 1
    funext r
    show decide (1 < runs (flags ns (canon cs r))) = _
    rw [flags_canon h]
  have := nums_zero (f := fun r => decide (1 < rn ns cs r)) (rs := rs)
  rw [e] at this
  cases hb : anyB ns rs with
  | true => rw [hb] at this; exact decide_eq_false fun q => by have := this.mp q; cases this
  | false => exact decide_eq_true (this.mpr hb)
section
variable {P : Program} {w : World} {K : PySem.W.Frag} {mg : Str → Option Value} {base : Heap} {A : Ad}
theorem in_of_fault {cs ns : List Str} (h : fault cs ns = none) : ∀ z ∈ ns, z ∈ cs := by
  have : stray cs ns = none := by
    unfold fault at h
    cases e : stray cs ns with
    | none => rfl
    | some i => rw [e] at h; cases h
  exact (stray_none_iff.mp this).1
def spCL (so : Hp → Addr → List V → Prop) (C BO NL : Addr) : Sp := fun vs H Q E => ∃ p l cs rs ns, vs = [.ref p, .ref l] ∧ Tb C H p cs rs ∧ so H l (sv ns) ∧ ns.length ≤ 1000 ∧ rs.length ≤ 1000 ∧
  (∀ i, fault cs ns = some i → ∀ d H', Same H H' → H' d = some (.xd [("index", .int (i : Nat))]) → E (.ref BO) (some d) H') ∧
  (fault cs ns = none → anyB ns rs = true → ∀ H', Same H H' → E (.ref NL) none H') ∧ (fault cs ns = none → anyB ns rs = false → ∀ H', Same H H' → Q .non H')
theorem ok_checkLay (T : Txt P K mg A) : FnOk P w K mg base (L2.CX P w) 6 A.a_check_layout A.d_check_layout ["table", "order"] (spCL (SqL K) A.C_Table A.C_BadOrder A.C_NotLayout) := by
  have GX_check_order := ok_checkZ (P := P) (w := w) (base := base) T
  have G_is_layout := ok_lay (P := P) (w := w) (base := base) T
  refine funX T.F_check_layout sc_check_layout (fun vs H Q E h => ?_) (fun cdv A' outer s H vs Q E hr h => ?_)
  · obtain ⟨p, l, cs, rs, ns, rfl, _⟩ := h
    rfl
  · obtain ⟨p, l, cs, rs, ns, rfl, hT, hO, hl, hrl, k1, k2, k3⟩ := h
    refine ⟨_, (pss_cons (ps_expr (pe_callS GX_check_order (hr.mono (by decide)) rfl T.mg_check_order T.F_check_order.kp T.b_check_order (fun σ => passAt (takes_of rfl rfl rfl rfl) σ) (pa_cons (pv 0) (pa_cons (pv 1) pa_nil))))
      (pss_one (ps_if (pt_not (pt_val (pe_call G_is_layout (hr.mono (by decide)) rfl T.mg_is_layout T.F_is_layout.kp T.b_is_layout .nil pass0 (pa_cons (pv 0) (pa_cons (pv 1) pa_nil))))) (pss_one (ps_raise rfl (takes_of rfl rfl rfl rfl) (pmk_own PySem.F.excBase_ValueError T.x_NotLayout T.mg_NotLayout T.k_NotLayout (raises_own T.bp_NotLayout T.tp_NotLayout) rfl))) pss_nil))), ?_⟩
    refine ⟨_, rfl, _, rfl, p, l, cs, rs, ns, rfl, hT, hO, hl, k1, fun hf H1 s1 => ?_⟩
    refine ⟨_, rfl, _, rfl, p, l, cs, rs, ns, rfl, hT.same s1, s1.seq hO, hl, hrl, fun H2 s2 => ?_⟩
    rw [decide_eq_true hf, lay_any (in_of_fault hf), Bool.true_and]
    cases hb : anyB ns rs with
    | true => exact ⟨_, rfl, ifT rfl (k2 hf hb H2 (s1.trans s2))⟩
    | false => exact ⟨_, rfl, ifF rfl (k3 hf hb H2 (s1.trans s2))⟩
theorem ok_checkLayT (T : Txt P K mg A) : FnOk P w K mg base (L2.CX P w) 6 A.a_check_layout A.d_check_layout ["table", "order"] (spCL (SqT K) A.C_Table A.C_BadOrder A.C_NotLayout) := by
  have GX_check_orderT := ok_checkZT (P := P) (w := w) (base := base) T
  have G_is_layoutT := ok_layT (P := P) (w := w) (base := base) T
  refine funX T.F_check_layout sc_check_layout (fun vs H Q E h => ?_) (fun cdv A' outer s H vs Q E hr h => ?_)
  · obtain ⟨p, l, cs, rs, ns, rfl, _⟩ := h
    rfl
  · obtain ⟨p, l, cs, rs, ns, rfl, hT, hO, hl, hrl, k1, k2, k3⟩ := h
    refine ⟨_, (pss_cons (ps_expr (pe_callS GX_check_orderT (hr.mono (by decide)) rfl T.mg_check_order T.F_check_order.kp T.b_check_order (fun σ => passAt (takes_of rfl rfl rfl rfl) σ) (pa_cons (pv 0) (pa_cons (pv 1) pa_nil))))
      (pss_one (ps_if (pt_not (pt_val (pe_call G_is_layoutT (hr.mono (by decide)) rfl T.mg_is_layout T.F_is_layout.kp T.b_is_layout .nil pass0 (pa_cons (pv 0) (pa_cons (pv 1) pa_nil))))) (pss_one (ps_raise rfl (takes_of rfl rfl rfl rfl) (pmk_own PySem.F.excBase_ValueError T.x_NotLayout T.mg_NotLayout T.k_NotLayout (raises_own T.bp_NotLayout T.tp_NotLayout) rfl))) pss_nil))), ?_⟩
    refine ⟨_, rfl, _, rfl, p, l, cs, rs, ns, rfl, hT, hO, hl, k1, fun hf H1 s1 => ?_⟩
    refine ⟨_, rfl, _, rfl, p, l, cs, rs, ns, rfl, hT.same s1, s1.tup hO, hl, hrl, fun H2 s2 => ?_⟩
    rw [decide_eq_true hf, lay_any (in_of_fault hf), Bool.true_and]
    cases hb : anyB ns rs with
    | true => exact ⟨_, rfl, ifT rfl (k2 hf hb H2 (s1.trans s2))⟩
    | false => exact ⟨_, rfl, ifF rfl (k3 hf hb H2 (s1.trans s2))⟩
end
end My
set_option maxRecDepth 100000
set_option maxHeartbeats 4000000
set_option exponentiation.threshold 10000
namespace My
open PySem L2
theorem okSpan_row {cs : List Str} {rs : List (List Str)} {s : TSp} (h : okSpan cs rs s = true) : ∃ n : Nat, ∃ r, s.1 = ((n : Nat) : Int) ∧ rs[n]? = some r ∧ canon cs r ≠ [] ∧ rs.getD s.1.toNat [] = r := by
  unfold okSpan hasTime at h
  rw [Bool.and_eq_true, Bool.and_eq_true, decide_eq_true_iff, decide_eq_true_iff] at h
  obtain ⟨⟨⟨h0, h1⟩, h2⟩, _⟩ := h
  have hn : s.1.toNat < rs.length := by omega
  have hr : rs[s.1.toNat]? = some rs[s.1.toNat] := List.getElem?_eq_getElem hn
  have e : rs.getD s.1.toNat [] = rs[s.1.toNat] := by rw [List.getD_eq_getElem?_getD, hr]; rfl
  rw [e] at h2
  exact ⟨s.1.toNat, _, by omega, hr, List.length_pos_iff.mp h2, e⟩
theorem yf_len {n : Nat} {ys : List Int} (h : yearFault n ys = none) : ys.length = n := by
  unfold yearFault at h
  rw [List.find?_eq_none] at h
  rcases Nat.lt_trichotomy ys.length n with c | c | c
  · have := h ys.length (List.mem_range.mpr (by omega))
    unfold badYear at this
    rw [decide_eq_true (Nat.le_refl ys.length), Bool.true_or, Bool.or_true] at this
    exact absurd rfl this
  · exact c
  · have := h n (List.mem_range.mpr (by omega))
    unfold badYear at this
    rw [decide_eq_true (Nat.le_refl n), Bool.true_or] at this
    exact absurd rfl this
section
variable {P : Program} {w : World} {K : PySem.W.Frag} {mg : Str → Option Value} {base : Heap} {A : Ad}
def spCY (so sy : Hp → Addr → List V → Prop) (K : PySem.W.Frag) (A : Ad) : Sp := fun vs H Q E => ∃ p tb o y cs rs ss ns, ∃ ys : List Int, vs = [.ref p, .ref o, .ref y] ∧ Sps A.C_Spans A.C_Table K H p tb cs rs ss ∧ so H o (sv ns) ∧ sy H y (ivs ys) ∧ ns.length ≤ 1000 ∧ ys.length ≤ 1000 ∧ rs.length ≤ 48 ∧ ss.length ≤ 1000 ∧ ColsOk cs ∧ (∀ s ∈ ss, okSpan cs rs s = true) ∧
  (∀ i, dueF cs rs ss ns ys = .order i → ∀ d H', Same H H' → H' d = some (.xd [("index", .int (i : Nat))]) → E (.ref A.C_BadOrder) (some d) H') ∧
  (dueF cs rs ss ns ys = .layout → ∀ H', Same H H' → E (.ref A.C_NotLayout) none H') ∧
  (∀ i, dueF cs rs ss ns ys = .years i → ∀ d H', Same H H' → H' d = some (.xd [("index", .int (i : Nat))]) → E (.ref A.C_BadYears) (some d) H') ∧
  (∀ i, dueF cs rs ss ns ys = .span i → ∀ d H', Same H H' → H' d = some (.xd [("index", .int (i : Nat))]) → E (.ref A.C_BrokenSpan) (some d) H') ∧
  (dueF cs rs ss ns ys = .ok → ∀ H', Same H H' → Q .non H')
theorem ok_years (T : Txt P K mg A) : FnOk P w K mg base (L2.CX P w) 8 A.a_check_years A.d_check_years ["spans", "order", "years"] (spCY (SqL K) (SqL K) K A) := by
  have GX_check_layout := ok_checkLay (P := P) (w := w) (base := base) T
  have G_time_ofLT := ok_timeLT (P := P) (w := w) (base := base) T
  have G_Table_getitem := ok_get (P := P) (w := w) (base := base) T
  have G_BadYears_init := ok_BadYears (P := P) (w := w) (base := base) T
  have G_BrokenSpan_init := ok_BrokenSpan (P := P) (w := w) (base := base) T
  refine funX T.F_check_years sc_check_years (fun vs H Q E h => ?_) (fun cdv A' outer s H vs Q E hr h => ?_)
  · obtain ⟨p, tb, o, y, cs, rs, ss, ns, ys, rfl, _⟩ := h
    rfl
  · obtain ⟨p, tb, o, y, cs, rs, ss, ns, ys, rfl, hS, hO, hY, hl, hyl, hrl, hsl, ok, hok, k1, k2, k3, k4, k5⟩ := h
    refine ⟨_, (pss_cons (ps_expr (pe_callS GX_check_layout (hr.mono (by decide)) rfl T.mg_check_layout T.F_check_layout.kp T.b_check_layout (fun σ => passAt (takes_of rfl rfl rfl rfl) σ) (pa_cons (pe_fld (pv 0) rfl) (pa_cons (pv 1) pa_nil))))
      (pss_cons (ps_for (passes_of rfl) rfl (pi_range1 (by rfl) T.n_range (pa_cons (pe_callB (call_max2 rfl) (by rfl) T.n_max (by decide +kernel) (pa_cons (pe_callB call_len_seq (by rfl) T.n_len (by decide +kernel) (pa_cons (pv 1) pa_nil)) (pa_cons (pe_callB call_len_seq (by rfl) T.n_len (by decide +kernel) (pa_cons (pv 2) pa_nil)) pa_nil))) pa_nil)) (pg_name (i := 3) sc_check_years.nd rfl (Or.inl rfl))
        (pss_one (ps_if (PW.pt (pw_or (pt_cmpR op_ge (pv 3) (pe_callB (call_min2 rfl) (by rfl) T.n_min (by decide +kernel) (pa_cons (pe_callB call_len_seq (by rfl) T.n_len (by decide +kernel) (pa_cons (pv 1) pa_nil)) (pa_cons (pe_callB call_len_seq (by rfl) T.n_len (by decide +kernel) (pa_cons (pv 2) pa_nil)) pa_nil))) (nomark _)) (pw_or1 (pt_cmpR op_lt (pe_ix ix_list (pv 2) (pv 3) (fun _ _ => rfl)) (pe_ix ix_list (pv 2) (pe_callB (call_max2 rfl) (by rfl) T.n_max (by decide +kernel) (pa_cons (pe_op op_sub (pv 3) pe_int) (pa_cons pe_int pa_nil))) (fun _ _ => rfl)) (nomark _))))) (pss_one (ps_raise rfl (takes_of rfl rfl rfl rfl) (pmk_oex T.SC_BadYears.ox T.ii_BadYears T.ti_BadYears G_BadYears_init (hr.mono (by decide)) T.b_BadYears_init .nil pass0 rfl T.mg_BadYears (pa_cons (pv 3) pa_nil)))) pss_nil)))
      (pss_one (ps_for (passes_of rfl) rfl (pi_enumT (by rfl) T.n_enumerate (pa_cons (pe_fld (pv 0) rfl) pa_nil)) (pg_tup (by rfl) (pgs_cons (pg_name (i := 3) sc_check_years.nd rfl (Or.inl rfl)) (pgs_cons (pg_tup (by rfl) (pgs_cons (pg_name (i := 4) sc_check_years.nd rfl (Or.inl rfl)) (pgs_cons (pg_name (i := 5) sc_check_years.nd rfl (Or.inl rfl)) (pgs_cons (pg_name (i := 6) sc_check_years.nd rfl (Or.inl rfl)) pgs_nil)))) pgs_nil)))
        (pss_cons (ps_set (i := 7) sc_check_years.nd rfl (Or.inl rfl) (pe_call G_time_ofLT (hr.mono (by decide)) rfl T.mg_time_of T.F_time_of.kp T.b_time_of .nil pass0 (pa_cons (pv 1) (pa_cons (pv 2) (pa_cons (pe_ixOwn G_Table_getitem T.b_Table_getitem passS0 (hr.mono (by decide)) T.m_Table_getitem.at_ (fnIn_of T.F_Table_getitem) T.m_Table_getitem.fn (pe_fld (pv 0) rfl) (pv 4) (fun _ _ => by with_unfolding_all rfl)) pa_nil)))))
      (pss_one (ps_if (PW.pt (pw_or (pt_cmpR op_lt (pv 7) (pv 5) (nomark _)) (pw_or1 (PW.pt (pw_and (pt_cmpR op_notN (pv 6) pe_non (nomark _)) (pw_and1 (pt_cmpR op_gt (pv 7) (pv 6) (nomark _)))))))) (pss_one (ps_raise rfl (takes_of rfl rfl rfl rfl) (pmk_oex T.SC_BrokenSpan.ox T.ii_BrokenSpan T.ti_BrokenSpan G_BrokenSpan_init (hr.mono (by decide)) T.b_BrokenSpan_init .nil pass0 rfl T.mg_BrokenSpan (pa_cons (pv 3) pa_nil)))) pss_nil))))))), ?_⟩
    obtain ⟨dx, ut, us, h1, hT, hu, hus⟩ := id hS
    refine ⟨_, rfl, _, _, _, _, _, rfl, h1, T.cl_Spans, T.n_Spans_table, fldsS_table _ _, _, rfl, tb, o, cs, rs, ns, rfl, hT, hO, hl, by omega, fun i hf d H1 s1 hd => k1 i (due_order hf) d H1 s1 hd, fun hf hb H1 s1 => k2 (due_layout hf hb) H1 s1, fun hf hb H1 s1 => ?_⟩
    have hO1 := (fun s h => Same.seq s h) s1 hO
    have hY1 := s1.seq hY
    have ly : (ivs ys).length = ys.length := List.length_map ..
    generalize hM : (if ((ivs ys).length : Int) > ((sv ns).length : Int) then ((ivs ys).length : Int) else ((sv ns).length : Int)) = M
    have eM : M = ((max ns.length ys.length : Nat) : Int) := by
      rw [← hM, ly, len_sv]
      split <;> omega
    have e1 : M.toNat = max ns.length ys.length := by rw [eM, Int.toNat_natCast]
    refine ⟨_, rfl, o, _, rfl, .inl hO1, _, rfl, y, _, rfl, .inl hY1, _, _, rfl, M, by rw [← hM], by omega, by omega, ?_⟩
    refine for_range (n := M.toNat) (fun i σ H2 => Same H1 H2 ∧ (∀ j, j < i → badYear ns.length ys j = false) ∧ ∃ u : Option V, σ = [some (.ref p), some (.ref o), some (.ref y), u, none, none, none, none]) ⟨Same.refl _, fun j hj => absurd hj (Nat.not_lt_zero _), none, rfl⟩ ?_ ?_
    · rintro i σ H2 hi ⟨sm, hb2, u, rfl⟩
      rw [e1] at hi
      have ei : ((0 : Int) + (i : Int)) = ((i : Nat) : Int) := by omega
      rw [ei]
      have ret : badYear ns.length ys i = true → ∀ d H', Same H2 H' → H' d = some (.xd [("index", .int (i : Nat))]) → E (.ref A.C_BadYears) (some d) H' := fun hbt d H' s' hd => k3 i (due_years hf hb (yearFault_some hi hbt hb2)) d H' ((s1.trans sm).trans s') hd
      have okk : badYear ns.length ys i = false → ∀ j, j < i + 1 → badYear ns.length ys j = false := fun h j hj => by
        rcases Nat.lt_succ_iff_lt_or_eq.mp hj with q | q
        · exact hb2 j q
        · rw [q]; exact h
      refine ⟨_, rfl, _, rfl, o, _, rfl, .inl ((fun s h => Same.seq s h) sm hO1), _, rfl, y, _, rfl, .inl (sm.seq hY1), _, _, rfl, _, _, rfl, rfl, _, rfl, ?_⟩
      have hmin : (if ((ivs ys).length : Int) < ((sv ns).length : Int) then ((ivs ys).length : Int) else ((sv ns).length : Int)) = ((min ns.length ys.length : Nat) : Int) := by
        rw [ly, len_sv]; split <;> omega
      rw [hmin]
      by_cases h1 : min ns.length ys.length ≤ i
      · have bt : badYear ns.length ys i = true := by
          unfold badYear
          by_cases q : ns.length ≤ i
          · rw [decide_eq_true q]; rfl
          · rw [decide_eq_true (show ys.length ≤ i by omega), Bool.true_or, Bool.or_true]
        refine itY (by omega) (ifT rfl ⟨_, rfl, (by decide : 1 ≤ 1000), fun a ha => ⟨a, _, rfl, ⟨_, rfl, by rw [Int.natAbs_natCast]; omega⟩, upd_same, fun d hd hne => ⟨rfl, d, _, upd_same, by rw [upd_ne hne, upd_same], by rw [upd_ne hne] at hd; exact hd, ?_⟩⟩⟩)
        rw [upd_ne hne] at hd
        exact ret bt d _ (exc_same ha hd) upd_same
      · refine itN (by omega) ?_
        have hyi : i < ys.length := by omega
        have z1 : ys[i]? = some ys[i] := List.getElem?_eq_getElem hyi
        have z0 : ys[i - 1]? = some ys[i - 1] := List.getElem?_eq_getElem (by omega)
        have a1 : atI (ivs ys) (i : Int) = some (V.int ys[i]) := atI_nat (by rw [List.getElem?_map, z1]; rfl)
        have em : (if (0 : Int) > (i : Int) - 1 then (0 : Int) else (i : Int) - 1) = ((i - 1 : Nat) : Int) := by split <;> omega
        have a0 : atI (ivs ys) (if (0 : Int) > (i : Int) - 1 then (0 : Int) else (i : Int) - 1) = some (V.int ys[i - 1]) := by
          rw [em]
          exact atI_nat (by rw [List.getElem?_map, z0]; rfl)
        have g1 : ys.getD i 0 = ys[i] := by rw [List.getD_eq_getElem?_getD, z1]; rfl
        have g0 : ys.getD (i - 1) 0 = ys[i - 1] := by rw [List.getD_eq_getElem?_getD, z0]; rfl
        have bad : badYear ns.length ys i = decide (ys[i] < ys[i - 1]) := by
          unfold badYear
          rw [decide_eq_false (show ¬ ns.length ≤ i by omega), decide_eq_false (show ¬ ys.length ≤ i by omega), g1, g0]
          by_cases q : 0 < i
          · rw [decide_eq_true q]; rfl
          · have : i = 0 := by omega
            subst this
            rw [decide_eq_false (show ¬ (ys[0] < ys[0 - 1]) from Int.lt_irrefl _)]; rfl
        refine ⟨_, rfl, _, rfl, y, _, _, _, rfl, rfl, sm.seq hY1, a1, _, rfl, _, rfl, _, _, rfl, rfl, _, _, rfl, y, _, _, _, rfl, rfl, sm.seq hY1, a0, _, _, rfl, rfl, _, rfl, ?_⟩
        by_cases hlt : ys[i] < ys[i - 1]
        · refine ifT (decide_eq_true hlt) ⟨_, rfl, (by decide : 1 ≤ 1000), fun a ha => ⟨a, _, rfl, ⟨_, rfl, by rw [Int.natAbs_natCast]; omega⟩, upd_same, fun d hd hne => ⟨rfl, d, _, upd_same, by rw [upd_ne hne, upd_same], by rw [upd_ne hne] at hd; exact hd, ?_⟩⟩⟩
          rw [upd_ne hne] at hd
          exact ret (by rw [bad]; exact decide_eq_true hlt) d _ (exc_same ha hd) upd_same
        · exact ifF (decide_eq_false hlt) ⟨sm, okk (by rw [bad]; exact decide_eq_false hlt), _, rfl⟩
    · rintro σ H2 ⟨sm, hb2, u, rfl⟩
      rw [e1] at hb2
      have hyf := yearFault_none hb2
      have hly := yf_len hyf
      have s2 := s1.trans sm
      have hS2 := hS.same s2
      obtain ⟨dx, ut, us, h1, hT, hu, hus⟩ := id hS2
      have hO2 := (fun s h => Same.seq s h) s2 hO
      have hY2 := s2.seq hY
      have hin := in_of_fault hf
      have nd := (perm_of_fault ok.nd hf).2.1
      have hpm := (perm_of_fault ok.nd hf).2.2
      refine ⟨_, rfl, _, _, _, _, _, rfl, h1, T.cl_Spans, T.n_Spans_told, fldsS_told _ _, ut, _, rfl, SqT.of hu, for_it walk_enumT (fun i σ H3 => Same H2 H3 ∧ (∀ j, j < i → brkAt ns ys rs ss j = false) ∧ ∃ u1 u2 u3 u4 u5 : Option V, σ = [some (.ref p), some (.ref o), some (.ref y), u1, u2, u3, u4, u5]) ⟨Same.refl _, fun j hj => absurd hj (Nat.not_lt_zero _), _, _, _, _, _, rfl⟩ (fun i σ H3 _ q => q.1.tup (SqT.of hu)) ?_ ?_⟩
      · rintro i x σ H3 H4 hi ⟨sm3, hb3, u1, u2, u3, u4, u5, rfl⟩ ⟨t, _, _, rfl, ht, rfl, ⟨⟩, hx⟩
        obtain ⟨b, hb4, rfl⟩ := refs_get hx
        obtain ⟨s0, hs0, ho⟩ := hus.get hb4
        obtain ⟨sn, sl, smo⟩ := s0
        have hil := (List.getElem?_eq_some_iff.mp hs0).1
        have hsk := hok (sn, sl, smo) (List.mem_of_getElem? hs0)
        obtain ⟨n, r, en, hr3, hcn, egr⟩ := okSpan_row hsk
        have s4 : Same H2 (upd H3 t (.tup [.int (i : Nat), .ref b])) := sm3.trans (same_new ht)
        refine ⟨t, _, rfl, SqT.of upd_same, rfl, _, _, rfl, _, _, rfl, ⟨b, _, rfl, s4.tup ho, rfl, _, _, rfl, _, _, rfl, _, _, rfl, rfl, rfl, ?_⟩⟩
        have h14 := s4 _ _ h1
        obtain ⟨dxt, ct, rt, tts, ht1, _⟩ := id (hT.same s4)
        refine ⟨_, rfl, _, rfl, _, rfl, _, _, _, _, _, rfl, h14, T.cl_Spans, T.n_Spans_table, fldsS_table _ _, _, rfl, tb, dxt, _, rfl, ht1, tb, n, cs, rs, by rw [← en], hT.same s4, (List.getElem?_eq_some_iff.mp hr3).1, fun q r' hr' hq => ?_⟩
        rw [hr3] at hr'; cases hr'
        have hcl : (canon cs r).length ≤ 1000 := by have := (canon_sub cs r).length_le; have := ok.n; omega
        refine ⟨o, y, q, ns, canon cs r, ys, rfl, (fun s h => Same.seq s h) s4 hO2, s4.seq hY2, SqT.of hq, hl, hcl, by omega, nd, hcn, fun z hz => hpm.mem_iff.mpr ((canon_sub cs r).subset hz), fun f g a b2 H5 hf5 hg5 ha5 hb5 s5 => ?_⟩
        rw [flags_canon hin] at hf5 hg5
        have et := timeZ_at hf5 hg5 ha5 hb5
        have s5 := s4.trans s5
        have ret : brk ns ys rs (sn, sl, smo) = true → ∀ d H', Same H5 H' → H' d = some (.xd [("index", .int (i : Nat))]) → E (.ref A.C_BrokenSpan) (some d) H' := fun hbt d H' s' hd => k4 i (due_span hf hb hyf (firstI_some hil (by rw [brkAt_at hs0]; exact hbt) hb3)) d H' ((s2.trans s5).trans s') hd
        have okk : brk ns ys rs (sn, sl, smo) = false → ∀ j, j < i + 1 → brkAt ns ys rs ss j = false := fun h j hj => by
          rcases Nat.lt_succ_iff_lt_or_eq.mp hj with q | q
          · exact hb3 j q
          · rw [q, brkAt_at hs0]; exact h
        have eb : brk ns ys rs (sn, sl, smo) = (decide (b2 - a < sl) || moreB (b2 - a) smo) := by unfold brk; rw [egr, et]
        refine ⟨_, rfl, _, rfl, _, _, rfl, rfl, _, rfl, ?_⟩
        by_cases hlt : b2 - a < sl
        · exact itY hlt (ifT rfl ⟨_, rfl, (by decide : 1 ≤ 1000), fun aa ha => ⟨aa, _, rfl, ⟨_, rfl, by rw [Int.natAbs_natCast]; omega⟩, upd_same, fun d hd hne => ⟨rfl, d, _, upd_same, by rw [upd_ne hne, upd_same], by rw [upd_ne hne] at hd; exact hd, by rw [upd_ne hne] at hd; exact ret (by rw [eb, decide_eq_true hlt]; rfl) d _ (exc_same ha hd) upd_same⟩⟩⟩)
        · refine itN hlt ?_
          rw [decide_eq_false hlt, Bool.false_or] at eb
          cases smo with
          | none => exact ⟨_, rfl, rfl, _, rfl, ifF (by rw [decide_eq_true (show optI none = V.non from rfl)]; rfl) (ifF rfl ⟨s5, okk eb, _, _, _, _, _, rfl⟩)⟩
          | some m =>
            refine ⟨_, rfl, rfl, _, rfl, ifT (by rw [decide_eq_false (show optI (some m) ≠ V.non from fun z => nomatch z)]; rfl) ⟨_, rfl, _, rfl, _, _, rfl, rfl, _, rfl, ?_⟩⟩
            by_cases hm : m < b2 - a
            · exact ifT (decide_eq_true hm) ⟨_, rfl, (by decide : 1 ≤ 1000), fun aa ha => ⟨aa, _, rfl, ⟨_, rfl, by rw [Int.natAbs_natCast]; omega⟩, upd_same, fun d hd hne => ⟨rfl, d, _, upd_same, by rw [upd_ne hne, upd_same], by rw [upd_ne hne] at hd; exact hd, by rw [upd_ne hne] at hd; exact ret (by rw [eb]; exact decide_eq_true hm) d _ (exc_same ha hd) upd_same⟩⟩⟩
            · exact ifF (decide_eq_false hm) ⟨s5, okk (by rw [eb]; exact decide_eq_false hm), _, _, _, _, _, rfl⟩
      · rintro σ H3 ⟨sm3, hb3, _⟩
        refine k5 (due_ok hf hb hyf (firstI_none fun j hj => hb3 j (by rw [List.length_map, hus.len]; exact hj))) H3 (s2.trans sm3)
theorem ok_yearsT (T : Txt P K mg A) : FnOk P w K mg base (L2.CX P w) 8 A.a_check_years A.d_check_years ["spans", "order", "years"] (spCY DT (SqT K) K A) := by
  have GX_check_layoutT := ok_checkLayT (P := P) (w := w) (base := base) T
  have G_time_ofT := ok_timeT (P := P) (w := w) (base := base) T
  have G_Table_getitem := ok_get (P := P) (w := w) (base := base) T
  have G_BadYears_init := ok_BadYears (P := P) (w := w) (base := base) T
  have G_BrokenSpan_init := ok_BrokenSpan (P := P) (w := w) (base := base) T
  refine funX T.F_check_years sc_check_years (fun vs H Q E h => ?_) (fun cdv A' outer s H vs Q E hr h => ?_)
  · obtain ⟨p, tb, o, y, cs, rs, ss, ns, ys, rfl, _⟩ := h
    rfl
  · obtain ⟨p, tb, o, y, cs, rs, ss, ns, ys, rfl, hS, hO, hY, hl, hyl, hrl, hsl, ok, hok, k1, k2, k3, k4, k5⟩ := h
    refine ⟨_, (pss_cons (ps_expr (pe_callS GX_check_layoutT (hr.mono (by decide)) rfl T.mg_check_layout T.F_check_layout.kp T.b_check_layout (fun σ => passAt (takes_of rfl rfl rfl rfl) σ) (pa_cons (pe_fld (pv 0) rfl) (pa_cons (pv 1) pa_nil))))
      (pss_cons (ps_for (passes_of rfl) rfl (pi_range1 (by rfl) T.n_range (pa_cons (pe_callB (call_max2 rfl) (by rfl) T.n_max (by decide +kernel) (pa_cons (pe_callB call_len_seq (by rfl) T.n_len (by decide +kernel) (pa_cons (pv 1) pa_nil)) (pa_cons (pe_callB call_len_seq (by rfl) T.n_len (by decide +kernel) (pa_cons (pv 2) pa_nil)) pa_nil))) pa_nil)) (pg_name (i := 3) sc_check_years.nd rfl (Or.inl rfl))
        (pss_one (ps_if (PW.pt (pw_or (pt_cmpR op_ge (pv 3) (pe_callB (call_min2 rfl) (by rfl) T.n_min (by decide +kernel) (pa_cons (pe_callB call_len_seq (by rfl) T.n_len (by decide +kernel) (pa_cons (pv 1) pa_nil)) (pa_cons (pe_callB call_len_seq (by rfl) T.n_len (by decide +kernel) (pa_cons (pv 2) pa_nil)) pa_nil))) (nomark _)) (pw_or1 (pt_cmpR op_lt (pe_ix ix_tup (pv 2) (pv 3) (fun _ _ => rfl)) (pe_ix ix_tup (pv 2) (pe_callB (call_max2 rfl) (by rfl) T.n_max (by decide +kernel) (pa_cons (pe_op op_sub (pv 3) pe_int) (pa_cons pe_int pa_nil))) (fun _ _ => rfl)) (nomark _))))) (pss_one (ps_raise rfl (takes_of rfl rfl rfl rfl) (pmk_oex T.SC_BadYears.ox T.ii_BadYears T.ti_BadYears G_BadYears_init (hr.mono (by decide)) T.b_BadYears_init .nil pass0 rfl T.mg_BadYears (pa_cons (pv 3) pa_nil)))) pss_nil)))
      (pss_one (ps_for (passes_of rfl) rfl (pi_enumT (by rfl) T.n_enumerate (pa_cons (pe_fld (pv 0) rfl) pa_nil)) (pg_tup (by rfl) (pgs_cons (pg_name (i := 3) sc_check_years.nd rfl (Or.inl rfl)) (pgs_cons (pg_tup (by rfl) (pgs_cons (pg_name (i := 4) sc_check_years.nd rfl (Or.inl rfl)) (pgs_cons (pg_name (i := 5) sc_check_years.nd rfl (Or.inl rfl)) (pgs_cons (pg_name (i := 6) sc_check_years.nd rfl (Or.inl rfl)) pgs_nil)))) pgs_nil)))
        (pss_cons (ps_set (i := 7) sc_check_years.nd rfl (Or.inl rfl) (pe_call G_time_ofT (hr.mono (by decide)) rfl T.mg_time_of T.F_time_of.kp T.b_time_of .nil pass0 (pa_cons (pv 1) (pa_cons (pv 2) (pa_cons (pe_ixOwn G_Table_getitem T.b_Table_getitem passS0 (hr.mono (by decide)) T.m_Table_getitem.at_ (fnIn_of T.F_Table_getitem) T.m_Table_getitem.fn (pe_fld (pv 0) rfl) (pv 4) (fun _ _ => by with_unfolding_all rfl)) pa_nil)))))
      (pss_one (ps_if (PW.pt (pw_or (pt_cmpR op_lt (pv 7) (pv 5) (nomark _)) (pw_or1 (PW.pt (pw_and (pt_cmpR op_notN (pv 6) pe_non (nomark _)) (pw_and1 (pt_cmpR op_gt (pv 7) (pv 6) (nomark _)))))))) (pss_one (ps_raise rfl (takes_of rfl rfl rfl rfl) (pmk_oex T.SC_BrokenSpan.ox T.ii_BrokenSpan T.ti_BrokenSpan G_BrokenSpan_init (hr.mono (by decide)) T.b_BrokenSpan_init .nil pass0 rfl T.mg_BrokenSpan (pa_cons (pv 3) pa_nil)))) pss_nil))))))), ?_⟩
    obtain ⟨dx, ut, us, h1, hT, hu, hus⟩ := id hS
    refine ⟨_, rfl, _, _, _, _, _, rfl, h1, T.cl_Spans, T.n_Spans_table, fldsS_table _ _, _, rfl, tb, o, cs, rs, ns, rfl, hT, hO.sq, hl, by omega, fun i hf d H1 s1 hd => k1 i (due_order hf) d H1 s1 hd, fun hf hb H1 s1 => k2 (due_layout hf hb) H1 s1, fun hf hb H1 s1 => ?_⟩
    have hO1 := (fun s h => DT.same h s) s1 hO
    have hY1 := s1.tup hY
    have ly : (ivs ys).length = ys.length := List.length_map ..
    generalize hM : (if ((ivs ys).length : Int) > ((sv ns).length : Int) then ((ivs ys).length : Int) else ((sv ns).length : Int)) = M
    have eM : M = ((max ns.length ys.length : Nat) : Int) := by
      rw [← hM, ly, len_sv]
      split <;> omega
    have e1 : M.toNat = max ns.length ys.length := by rw [eM, Int.toNat_natCast]
    refine ⟨_, rfl, o, _, rfl, .inr hO1.sq, _, rfl, y, _, rfl, .inr hY1, _, _, rfl, M, by rw [← hM], by omega, by omega, ?_⟩
    refine for_range (n := M.toNat) (fun i σ H2 => Same H1 H2 ∧ (∀ j, j < i → badYear ns.length ys j = false) ∧ ∃ u : Option V, σ = [some (.ref p), some (.ref o), some (.ref y), u, none, none, none, none]) ⟨Same.refl _, fun j hj => absurd hj (Nat.not_lt_zero _), none, rfl⟩ ?_ ?_
    · rintro i σ H2 hi ⟨sm, hb2, u, rfl⟩
      rw [e1] at hi
      have ei : ((0 : Int) + (i : Int)) = ((i : Nat) : Int) := by omega
      rw [ei]
      have ret : badYear ns.length ys i = true → ∀ d H', Same H2 H' → H' d = some (.xd [("index", .int (i : Nat))]) → E (.ref A.C_BadYears) (some d) H' := fun hbt d H' s' hd => k3 i (due_years hf hb (yearFault_some hi hbt hb2)) d H' ((s1.trans sm).trans s') hd
      have okk : badYear ns.length ys i = false → ∀ j, j < i + 1 → badYear ns.length ys j = false := fun h j hj => by
        rcases Nat.lt_succ_iff_lt_or_eq.mp hj with q | q
        · exact hb2 j q
        · rw [q]; exact h
      refine ⟨_, rfl, _, rfl, o, _, rfl, .inr ((fun s h => DT.same h s) sm hO1).sq, _, rfl, y, _, rfl, .inr (sm.tup hY1), _, _, rfl, _, _, rfl, rfl, _, rfl, ?_⟩
      have hmin : (if ((ivs ys).length : Int) < ((sv ns).length : Int) then ((ivs ys).length : Int) else ((sv ns).length : Int)) = ((min ns.length ys.length : Nat) : Int) := by
        rw [ly, len_sv]; split <;> omega
      rw [hmin]
      by_cases h1 : min ns.length ys.length ≤ i
      · have bt : badYear ns.length ys i = true := by
          unfold badYear
          by_cases q : ns.length ≤ i
          · rw [decide_eq_true q]; rfl
          · rw [decide_eq_true (show ys.length ≤ i by omega), Bool.true_or, Bool.or_true]
        refine itY (by omega) (ifT rfl ⟨_, rfl, (by decide : 1 ≤ 1000), fun a ha => ⟨a, _, rfl, ⟨_, rfl, by rw [Int.natAbs_natCast]; omega⟩, upd_same, fun d hd hne => ⟨rfl, d, _, upd_same, by rw [upd_ne hne, upd_same], by rw [upd_ne hne] at hd; exact hd, ?_⟩⟩⟩)
        rw [upd_ne hne] at hd
        exact ret bt d _ (exc_same ha hd) upd_same
      · refine itN (by omega) ?_
        have hyi : i < ys.length := by omega
        have z1 : ys[i]? = some ys[i] := List.getElem?_eq_getElem hyi
        have z0 : ys[i - 1]? = some ys[i - 1] := List.getElem?_eq_getElem (by omega)
        have a1 : atI (ivs ys) (i : Int) = some (V.int ys[i]) := atI_nat (by rw [List.getElem?_map, z1]; rfl)
        have em : (if (0 : Int) > (i : Int) - 1 then (0 : Int) else (i : Int) - 1) = ((i - 1 : Nat) : Int) := by split <;> omega
        have a0 : atI (ivs ys) (if (0 : Int) > (i : Int) - 1 then (0 : Int) else (i : Int) - 1) = some (V.int ys[i - 1]) := by
          rw [em]
          exact atI_nat (by rw [List.getElem?_map, z0]; rfl)
        have g1 : ys.getD i 0 = ys[i] := by rw [List.getD_eq_getElem?_getD, z1]; rfl
        have g0 : ys.getD (i - 1) 0 = ys[i - 1] := by rw [List.getD_eq_getElem?_getD, z0]; rfl
        have bad : badYear ns.length ys i = decide (ys[i] < ys[i - 1]) := by
          unfold badYear
          rw [decide_eq_false (show ¬ ns.length ≤ i by omega), decide_eq_false (show ¬ ys.length ≤ i by omega), g1, g0]
          by_cases q : 0 < i
          · rw [decide_eq_true q]; rfl
          · have : i = 0 := by omega
            subst this
            rw [decide_eq_false (show ¬ (ys[0] < ys[0 - 1]) from Int.lt_irrefl _)]; rfl
        refine ⟨_, rfl, _, rfl, y, _, _, _, rfl, rfl, sm.tup hY1, a1, _, rfl, _, rfl, _, _, rfl, rfl, _, _, rfl, y, _, _, _, rfl, rfl, sm.tup hY1, a0, _, _, rfl, rfl, _, rfl, ?_⟩
        by_cases hlt : ys[i] < ys[i - 1]
        · refine ifT (decide_eq_true hlt) ⟨_, rfl, (by decide : 1 ≤ 1000), fun a ha => ⟨a, _, rfl, ⟨_, rfl, by rw [Int.natAbs_natCast]; omega⟩, upd_same, fun d hd hne => ⟨rfl, d, _, upd_same, by rw [upd_ne hne, upd_same], by rw [upd_ne hne] at hd; exact hd, ?_⟩⟩⟩
          rw [upd_ne hne] at hd
          exact ret (by rw [bad]; exact decide_eq_true hlt) d _ (exc_same ha hd) upd_same
        · exact ifF (decide_eq_false hlt) ⟨sm, okk (by rw [bad]; exact decide_eq_false hlt), _, rfl⟩
    · rintro σ H2 ⟨sm, hb2, u, rfl⟩
      rw [e1] at hb2
      have hyf := yearFault_none hb2
      have hly := yf_len hyf
      have s2 := s1.trans sm
      have hS2 := hS.same s2
      obtain ⟨dx, ut, us, h1, hT, hu, hus⟩ := id hS2
      have hO2 := (fun s h => DT.same h s) s2 hO
      have hY2 := s2.tup hY
      have hin := in_of_fault hf
      have nd := (perm_of_fault ok.nd hf).2.1
      have hpm := (perm_of_fault ok.nd hf).2.2
      refine ⟨_, rfl, _, _, _, _, _, rfl, h1, T.cl_Spans, T.n_Spans_told, fldsS_told _ _, ut, _, rfl, SqT.of hu, for_it walk_enumT (fun i σ H3 => Same H2 H3 ∧ (∀ j, j < i → brkAt ns ys rs ss j = false) ∧ ∃ u1 u2 u3 u4 u5 : Option V, σ = [some (.ref p), some (.ref o), some (.ref y), u1, u2, u3, u4, u5]) ⟨Same.refl _, fun j hj => absurd hj (Nat.not_lt_zero _), _, _, _, _, _, rfl⟩ (fun i σ H3 _ q => q.1.tup (SqT.of hu)) ?_ ?_⟩
      · rintro i x σ H3 H4 hi ⟨sm3, hb3, u1, u2, u3, u4, u5, rfl⟩ ⟨t, _, _, rfl, ht, rfl, ⟨⟩, hx⟩
        obtain ⟨b, hb4, rfl⟩ := refs_get hx
        obtain ⟨s0, hs0, ho⟩ := hus.get hb4
        obtain ⟨sn, sl, smo⟩ := s0
        have hil := (List.getElem?_eq_some_iff.mp hs0).1
        have hsk := hok (sn, sl, smo) (List.mem_of_getElem? hs0)
        obtain ⟨n, r, en, hr3, hcn, egr⟩ := okSpan_row hsk
        have s4 : Same H2 (upd H3 t (.tup [.int (i : Nat), .ref b])) := sm3.trans (same_new ht)
        refine ⟨t, _, rfl, SqT.of upd_same, rfl, _, _, rfl, _, _, rfl, ⟨b, _, rfl, s4.tup ho, rfl, _, _, rfl, _, _, rfl, _, _, rfl, rfl, rfl, ?_⟩⟩
        have h14 := s4 _ _ h1
        obtain ⟨dxt, ct, rt, tts, ht1, _⟩ := id (hT.same s4)
        refine ⟨_, rfl, _, rfl, _, rfl, _, _, _, _, _, rfl, h14, T.cl_Spans, T.n_Spans_table, fldsS_table _ _, _, rfl, tb, dxt, _, rfl, ht1, tb, n, cs, rs, by rw [← en], hT.same s4, (List.getElem?_eq_some_iff.mp hr3).1, fun q r' hr' hq => ?_⟩
        rw [hr3] at hr'; cases hr'
        have hcl : (canon cs r).length ≤ 1000 := by have := (canon_sub cs r).length_le; have := ok.n; omega
        refine ⟨o, y, q, ns, canon cs r, ys, rfl, (fun s h => DT.same h s) s4 hO2, s4.tup hY2, SqT.of hq, hl, hcl, by omega, nd, hcn, fun z hz => hpm.mem_iff.mpr ((canon_sub cs r).subset hz), fun f g a b2 H5 hf5 hg5 ha5 hb5 s5 => ?_⟩
        rw [flags_canon hin] at hf5 hg5
        have et := timeZ_at hf5 hg5 ha5 hb5
        have s5 := s4.trans s5
        have ret : brk ns ys rs (sn, sl, smo) = true → ∀ d H', Same H5 H' → H' d = some (.xd [("index", .int (i : Nat))]) → E (.ref A.C_BrokenSpan) (some d) H' := fun hbt d H' s' hd => k4 i (due_span hf hb hyf (firstI_some hil (by rw [brkAt_at hs0]; exact hbt) hb3)) d H' ((s2.trans s5).trans s') hd
        have okk : brk ns ys rs (sn, sl, smo) = false → ∀ j, j < i + 1 → brkAt ns ys rs ss j = false := fun h j hj => by
          rcases Nat.lt_succ_iff_lt_or_eq.mp hj with q | q
          · exact hb3 j q
          · rw [q, brkAt_at hs0]; exact h
        have eb : brk ns ys rs (sn, sl, smo) = (decide (b2 - a < sl) || moreB (b2 - a) smo) := by unfold brk; rw [egr, et]
        refine ⟨_, rfl, _, rfl, _, _, rfl, rfl, _, rfl, ?_⟩
        by_cases hlt : b2 - a < sl
        · exact itY hlt (ifT rfl ⟨_, rfl, (by decide : 1 ≤ 1000), fun aa ha => ⟨aa, _, rfl, ⟨_, rfl, by rw [Int.natAbs_natCast]; omega⟩, upd_same, fun d hd hne => ⟨rfl, d, _, upd_same, by rw [upd_ne hne, upd_same], by rw [upd_ne hne] at hd; exact hd, by rw [upd_ne hne] at hd; exact ret (by rw [eb, decide_eq_true hlt]; rfl) d _ (exc_same ha hd) upd_same⟩⟩⟩)
        · refine itN hlt ?_
          rw [decide_eq_false hlt, Bool.false_or] at eb
          cases smo with
          | none => exact ⟨_, rfl, rfl, _, rfl, ifF (by rw [decide_eq_true (show optI none = V.non from rfl)]; rfl) (ifF rfl ⟨s5, okk eb, _, _, _, _, _, rfl⟩)⟩
          | some m =>
            refine ⟨_, rfl, rfl, _, rfl, ifT (by rw [decide_eq_false (show optI (some m) ≠ V.non from fun z => nomatch z)]; rfl) ⟨_, rfl, _, rfl, _, _, rfl, rfl, _, rfl, ?_⟩⟩
            by_cases hm : m < b2 - a
            · exact ifT (decide_eq_true hm) ⟨_, rfl, (by decide : 1 ≤ 1000), fun aa ha => ⟨aa, _, rfl, ⟨_, rfl, by rw [Int.natAbs_natCast]; omega⟩, upd_same, fun d hd hne => ⟨rfl, d, _, upd_same, by rw [upd_ne hne, upd_same], by rw [upd_ne hne] at hd; exact hd, by rw [upd_ne hne] at hd; exact ret (by rw [eb]; exact decide_eq_true hm) d _ (exc_same ha hd) upd_same⟩⟩⟩
            · exact ifF (decide_eq_false hm) ⟨s5, okk (by rw [eb]; exact decide_eq_false hm), _, _, _, _, _, rfl⟩
      · rintro σ H3 ⟨sm3, hb3, _⟩
        refine k5 (due_ok hf hb hyf (firstI_none fun j hj => hb3 j (by rw [List.length_map, hus.len]; exact hj))) H3 (s2.trans sm3)
end
end My
set_option maxRecDepth 100000
set_option maxHeartbeats 4000000
set_option exponentiation.threshold 10000
namespace My
open PySem L2
theorem plc_ne {ns cs r : List Str} (hp : ns.Perm cs) (h : canon cs r ≠ []) : plc (flags ns r) ≠ [] := by
  obtain ⟨z, hz⟩ := List.exists_mem_of_ne_nil _ h
  obtain ⟨h1, h2⟩ := mem_canon.mp hz
  obtain ⟨i, hi, e⟩ := List.getElem_of_mem (hp.mem_iff.mpr h1)
  exact List.ne_nil_of_mem (plc_mem.mpr ⟨z, by rw [List.getElem?_eq_getElem hi, e], h2⟩)
section
variable {P : Program} {w : World} {K : PySem.W.Frag} {mg : Str → Option Value} {base : Heap} {A : Ad}
theorem Txt.ko_self (T : Txt P K mg A) : PySem.W.kitOne K (.ref A.C_Table) (.ref A.C_Table) = some true := by
  unfold PySem.W.kitOne
  rw [if_pos (by simp)]
theorem Txt.ty (T : Txt P K mg A) {H : Hp} {p dx : Addr} {fs : List (Str × V)} (h : H p = some (.ins A.C_Table dx fs)) : TyX K H (.ref p) (.ref A.C_Table) :=
  .base (.ins h T.cl_Table T.c1_Table T.c2 T.c4 T.c3_Table)
theorem lay_pddT {rs : List (List Str)} (h : ∀ r ∈ rs, ∀ z ∈ r, Good z) : SeqAt.shaped (.tuple (pdd rs)) = true := shapedT (lay_pdd fun r hr z hz => okz_good (h r hr z hz)) (by have := depth_pdd rs; omega)
theorem good_canon {cs : List Str} {rs : List (List Str)} (g : ∀ z ∈ cs, Good z) : ∀ r ∈ rs.map (canon cs), ∀ z ∈ r, Good z := fun r hr z hz => by
  obtain ⟨x, _, rfl⟩ := List.mem_map.mp hr
  exact g z (List.mem_filter.mp hz).1
/-- two tables of the same columns and rows are equal -/
def spEq (C : Addr) : Sp := fun vs H Q _ => ∃ p1 p2 cs rs, vs = [.ref p1, .ref p2] ∧ Tb C H p1 cs rs ∧ Tb C H p2 cs rs ∧ (∀ z ∈ cs, Good z) ∧ Q (.bl true) H
theorem ok_eq (T : Txt P K mg A) : FnOk P w K mg base CX0 1 A.a_Table_eq A.d_Table_eq ["self", "other"] (spEq A.C_Table) := by
  refine T.F_Table_eq.ok sc_Table_eq (fun vs H Q E h => ?_) (fun cdv A' outer s H vs Q E hr h => ?_)
  · obtain ⟨p1, p2, cs, rs, rfl, _⟩ := h
    rfl
  · obtain ⟨p1, p2, cs, rs, rfl, t1, t2, g, k⟩ := h
    obtain ⟨d1, c1, r1, ts1, h1, hc1, hr1, hs1⟩ := t1
    obtain ⟨d2, c2, r2, ts2, h2, hc2, hr2, hs2⟩ := t2
    refine ⟨_, (pss_one (ps_ret (pe_and (pe_callB call_isi (by rfl) T.n_isinstance (by decide +kernel) (pa_cons (pv 1) (pa_cons (pe_glob (v := .ref A.C_Table) rfl T.mg_Table rfl) pa_nil))) (pe_and (pe_cmpR (op_eqD hr.units) (pe_fld (pv 0) rfl) (pe_fld (pv 1) rfl) (nomark _)) (pe_one (pe_cmpR (op_eqD hr.units) (pe_fld (pv 0) rfl) (pe_fld (pv 1) rfl) (nomark _))))))), ?_⟩
    have gc := good_canon (rs := rs) g
    refine ⟨_, rfl, _, _, _, _, true, rfl, .own _, T.ty h2, T.ko_self, true, rfl, iteT ?_⟩
    refine ⟨_, rfl, _, _, _, _, _, rfl, h1, T.cl_Table, T.n_Table_columns, fldsT_columns _ _, _, rfl, _, _, _, _, _, rfl, h2, T.cl_Table, T.n_Table_columns, fldsT_columns _ _, .tuple (pd cs), .tuple (pd cs), .tup (xs := sv cs) (SqT.of hc1) (dp_pd cs), .tup (xs := sv cs) (SqT.of hc2) (dp_pd cs), shaped_pdT (fun z hz => okz_good (g z hz)), shaped_pdT (fun z hz => okz_good (g z hz)), ?_⟩
    refine ⟨_, rfl, ifT (eqvT (lay_all fun z hz => okz_good (g z hz))) ?_⟩
    refine ⟨_, rfl, _, _, _, _, _, rfl, h1, T.cl_Table, T.n_Table_rows, fldsT_rows _ _, _, rfl, _, _, _, _, _, rfl, h2, T.cl_Table, T.n_Table_rows, fldsT_rows _ _, .tuple (pdd (rs.map (canon cs))), .tuple (pdd (rs.map (canon cs))), .tup (SqT.of hr1) (dp_pdd hs1), .tup (SqT.of hr2) (dp_pdd hs2), lay_pddT gc, lay_pddT gc, ?_⟩
    rw [eqvT (lay_pdd fun r hr z hz => okz_good (gc r hr z hz))]
    exact k
def spIsNum : Sp := fun vs H Q _ => ∃ (v a b : Int), vs = [.int v, .int a, .int b] ∧ Q (.bl (decide (a ≤ v ∧ v ≤ b))) H
theorem ok_isNum (T : Txt P K mg A) : FnOk P w K mg base CX0 1 A.a_law_is_number A.d_law_is_number ["value", "least", "most"] spIsNum := by
  refine T.F_law_is_number.ok sc_law_is_number (fun vs H Q E h => ?_) (fun cdv A' outer s H vs Q E hr h => ?_)
  · obtain ⟨v, a, b, rfl, _⟩ := h
    rfl
  · obtain ⟨v, a, b, rfl, k⟩ := h
    refine ⟨_, (pss_one (ps_ret (pe_and (pe_callB call_isi (by rfl) T.n_isinstance (by decide +kernel) (pa_cons (pv 0) (pa_cons (pe_bltn (v := .ty "int") (by rfl) T.n_int (by decide +kernel) rfl) pa_nil))) (pe_and (pe_not (pe_callB call_isi (by rfl) T.n_isinstance (by decide +kernel) (pa_cons (pv 0) (pa_cons (pe_bltn (v := .ty "bool") (by rfl) T.n_bool (by decide +kernel) rfl) pa_nil)))) (pe_and (pe_cmpR op_le (pv 1) (pv 0) (nomark _)) (pe_one (pe_cmpR op_le (pv 0) (pv 2) (nomark _)))))))), ?_⟩
    refine ⟨_, rfl, _, _, _, _, true, rfl, .ty _, .base (.int _), kit_ty (by decide +kernel), true, rfl, iteT ?_⟩
    refine ⟨_, rfl, _, _, _, _, false, rfl, .ty _, .base (.int _), kit_ty (by decide +kernel), false, rfl, true, rfl, iteT ?_⟩
    refine ⟨_, rfl, _, rfl, _, _, rfl, rfl, _, rfl, ?_⟩
    by_cases h1 : a ≤ v
    · refine itY h1 ⟨_, rfl, _, rfl, _, _, rfl, rfl, ?_⟩
      rw [show decide (a ≤ v ∧ v ≤ b) = decide (v ≤ b) from decide_eq_decide.mpr ⟨fun h => h.2, fun h => ⟨h1, h⟩⟩] at k
      exact k
    · refine itN h1 ?_
      rw [decide_eq_false (fun h => h1 h.1)] at k
      exact k
/-- what the law says is due -/
def wordF : Fd → Str
  | .order _ => "order"
  | .layout => "layout"
  | .years _ => "years"
  | .span _ => "span"
  | .ok => "none"
def numF : Fd → Nat
  | .order i => i
  | .layout => 0
  | .years i => i
  | .span i => i
  | .ok => 0
def spDue (K : PySem.W.Frag) : Sp := fun vs H Q _ => ∃ n r t o y cs rs rts ts ss ns, ∃ ys : List Int, vs = [.ref n, .ref r, .ref t, .ref o, .ref y] ∧ SqL K H n (sv cs) ∧ SqL K H r (rts.map V.ref) ∧ LsA K H rts rs ∧ SqL K H t (ts.map V.ref) ∧ Tl (SqT K) H ts ss ∧ SqL K H o (sv ns) ∧ SqL K H y (ivs ys) ∧ ns.length ≤ 1000 ∧ ys.length ≤ 1000 ∧ ss.length ≤ 1000 ∧ cs.Nodup ∧ (∀ s ∈ ss, okSpan cs rs s = true) ∧
  ∀ q H', Same H H' → H' q = some (.tup [.str (wordF (dueF cs rs ss ns ys)), .int (numF (dueF cs rs ss ns ys) : Nat)]) → Q (.ref q) H'
theorem ok_due (T : Txt P K mg A) : FnOk P w K mg base CX0 3 A.a_law_due A.d_law_due ["names", "rows", "told", "order", "years"] (spDue K) := by
  have G_law_bad_index := ok_badIx (P := P) (w := w) (base := base) T
  have G_law_unbroken := ok_lunb (P := P) (w := w) (base := base) T
  have G_law_bad_year := ok_badYear (P := P) (w := w) (base := base) T
  have G_law_time := ok_ltime (P := P) (w := w) (base := base) T
  refine T.F_law_due.ok sc_law_due (fun vs H Q E h => ?_) (fun cdv A' outer s H vs Q E hr h => ?_)
  · obtain ⟨n, r, t, o, y, cs, rs, rts, ts, ss, ns, ys, rfl, _⟩ := h
    rfl
  · obtain ⟨n, r, t, o, y, cs, rs, rts, ts, ss, ns, ys, rfl, hN, hR, hRs, hTd, hTs, hO, hY, hl, hyl, hsl, nd, hok, k⟩ := h
    refine ⟨_, (pss_cons (ps_set (i := 5) sc_law_due.nd rfl (Or.inl rfl) (pe_call G_law_bad_index (hr.mono (by decide)) rfl T.mg_law_bad_index T.F_law_bad_index.kp T.b_law_bad_index .nil pass0 (pa_cons (pv 0) (pa_cons (pv 3) pa_nil))))
      (pss_cons (ps_if (pt_cmpR op_ge (pv 5) pe_int (nomark _)) (pss_one (ps_ret (pe_tup (pa_cons pe_str (pa_cons (pv 5) pa_nil))))) pss_nil)
      (pss_cons (ps_for PassesOwn.never rfl (pi_list (pv 1)) (pg_name (i := 6) sc_law_due.nd rfl (Or.inl rfl))
        (pss_one (ps_if (pt_not (pt_val (pe_call G_law_unbroken (hr.mono (by decide)) rfl T.mg_law_unbroken T.F_law_unbroken.kp T.b_law_unbroken .nil pass0 (pa_cons (pv 3) (pa_cons (pv 6) pa_nil))))) (pss_one (ps_ret (pe_tup (pa_cons pe_str (pa_cons pe_int pa_nil))))) pss_nil)))
      (pss_cons (ps_set (i := 5) sc_law_due.nd rfl (Or.inl rfl) (pe_call G_law_bad_year (hr.mono (by decide)) rfl T.mg_law_bad_year T.F_law_bad_year.kp T.b_law_bad_year .nil pass0 (pa_cons (pv 3) (pa_cons (pv 4) pa_nil))))
      (pss_cons (ps_if (pt_cmpR op_ge (pv 5) pe_int (nomark _)) (pss_one (ps_ret (pe_tup (pa_cons pe_str (pa_cons (pv 5) pa_nil))))) pss_nil)
      (pss_cons (ps_for PassesOwn.never rfl (pi_range1 (by rfl) T.n_range (pa_cons (pe_callB call_len_seq (by rfl) T.n_len (by decide +kernel) (pa_cons (pv 2) pa_nil)) pa_nil)) (pg_name (i := 7) sc_law_due.nd rfl (Or.inl rfl))
        (pss_cons (ps_set (i := 8) sc_law_due.nd rfl (Or.inl rfl) (pe_call G_law_time (hr.mono (by decide)) rfl T.mg_law_time T.F_law_time.kp T.b_law_time .nil pass0 (pa_cons (pv 3) (pa_cons (pv 4) (pa_cons (pe_ix ix_list (pv 1) (pe_ix ix_tup (pe_ix ix_list (pv 2) (pv 7) (fun _ _ => rfl)) pe_int (fun _ _ => rfl)) (fun _ _ => rfl)) pa_nil)))))
      (pss_one (ps_if (PW.pt (pw_or (pt_cmpR op_lt (pv 8) (pe_ix ix_tup (pe_ix ix_list (pv 2) (pv 7) (fun _ _ => rfl)) pe_int (fun _ _ => rfl)) (nomark _)) (pw_or1 (PW.pt (pw_and (pt_cmpR op_notN (pe_ix ix_tup (pe_ix ix_list (pv 2) (pv 7) (fun _ _ => rfl)) pe_int (fun _ _ => rfl)) pe_non (nomark _)) (pw_and1 (pt_cmpR op_gt (pv 8) (pe_ix ix_tup (pe_ix ix_list (pv 2) (pv 7) (fun _ _ => rfl)) pe_int (fun _ _ => rfl)) (nomark _)))))))) (pss_one (ps_ret (pe_tup (pa_cons pe_str (pa_cons (pv 7) pa_nil))))) pss_nil))))
      (pss_one (ps_ret (pe_tup (pa_cons pe_str (pa_cons pe_int pa_nil))))))))))), ?_⟩
    have fin : ∀ (d : Fd), dueF cs rs ss ns ys = d → ∀ H2, Same H H2 → ∀ q, H2 q = none → Q (.ref q) (upd H2 q (.tup [.str (wordF d), .int (numF d : Nat)])) := fun d e H2 s2 q hq => by
      have := k q _ (s2.trans (same_new hq)) (by rw [e]; exact upd_same)
      exact this
    refine ⟨_, rfl, _, rfl, n, o, cs, ns, rfl, hN, hO, hl, fun H1 s1 => ?_⟩
    cases hf : fault cs ns with
    | some i =>
      refine ⟨_, rfl, _, _, rfl, rfl, _, rfl, itY (by show (0 : Int) ≤ (i : Int); omega) ⟨_, rfl, by show 2 ≤ sizeLine; decide, fun q hq => ?_⟩⟩
      exact fin (.order i) (due_order hf) _ s1 q hq
    | none =>
      refine ⟨_, rfl, _, _, rfl, rfl, _, rfl, itN (by show ¬ (0 : Int) ≤ (-1 : Int); omega) ?_⟩
      refine ⟨_, rfl, r, rfl, ⟨_, s1.seq hR⟩, for_it walk_list (fun i σ H2 => Same H H2 ∧ (∀ j x, j < i → rs[j]? = some x → runs (flags ns x) ≤ 1) ∧ ∃ u1 : Option V, σ = [some (.ref n), some (.ref r), some (.ref t), some (.ref o), some (.ref y), some (.int (-1)), u1, none, none]) ⟨s1, fun j x hj => absurd hj (Nat.not_lt_zero _), none, rfl⟩ (fun i σ H2 _ q => q.1.seq hR) ?_ ?_⟩
      · rintro i x σ H20 H2 hi ⟨sm, hb, u1, rfl⟩ ⟨rfl, hx⟩
        obtain ⟨b, hb2, rfl⟩ := refs_get hx
        obtain ⟨z, hz, ho⟩ := (hRs.same sm).get hb2
        refine ⟨_, rfl, _, rfl, o, b, ns, z, rfl, sm.seq hO, ho, hl, fun H3 s3 => ?_⟩
        by_cases hz1 : runs (flags ns z) ≤ 1
        · rw [decide_eq_true hz1]
          refine ⟨_, rfl, ifF rfl ⟨sm.trans s3, fun j x hj hx => ?_, _, rfl⟩⟩
          rcases Nat.lt_succ_iff_lt_or_eq.mp hj with q | q
          · exact hb j x q hx
          · rw [q, hz] at hx; cases hx; exact hz1
        · rw [decide_eq_false hz1]
          have hany : anyB ns rs = true := List.any_eq_true.mpr ⟨z, List.mem_of_getElem? hz, decide_eq_true (by omega)⟩
          refine ⟨_, rfl, ifT rfl ⟨by show 2 ≤ sizeLine; decide, fun q hq => ?_⟩⟩
          exact fin .layout (due_layout hf hany) _ (sm.trans s3) q hq
      · rintro σ H2 ⟨sm, hb, u1, rfl⟩
        have hany : anyB ns rs = false := List.any_eq_false.mpr fun z hz => by
          obtain ⟨j, hj, e⟩ := List.getElem_of_mem hz
          have := hb j z (by rw [List.length_map, hRs.len]; exact hj) (by rw [List.getElem?_eq_getElem hj, e])
          rw [decide_eq_true_iff]; omega
        refine ⟨_, rfl, _, rfl, o, y, ns, ys, rfl, sm.seq hO, sm.seq hY, hl, hyl, fun H3 s3 => ?_⟩
        have s3 := sm.trans s3
        cases hyf : yearFault ns.length ys with
        | some i =>
          refine ⟨_, rfl, _, _, rfl, rfl, _, rfl, itY (by show (0 : Int) ≤ (i : Int); omega) ⟨_, rfl, by show 2 ≤ sizeLine; decide, fun q hq => ?_⟩⟩
          exact fin (.years i) (due_years hf hany hyf) _ s3 q hq
        | none =>
          refine ⟨_, rfl, _, _, rfl, rfl, _, rfl, itN (by show ¬ (0 : Int) ≤ (-1 : Int); omega) ?_⟩
          have hly := yf_len hyf
          have hpm := (perm_of_fault nd hf).2.2
          have lt : (ts.map V.ref).length = ss.length := by rw [List.length_map, hTs.len]
          have e1 : (((ts.map V.ref).length : Nat) : Int).toNat = ss.length := by rw [lt, Int.toNat_natCast]
          refine ⟨_, rfl, t, _, rfl, .inl (s3.seq hTd), _, rfl, by rw [lt]; omega, by rw [lt]; omega, ?_⟩
          refine for_range (n := (((ts.map V.ref).length : Nat) : Int).toNat) (fun i σ H4 => Same H H4 ∧ (∀ j, j < i → brkAt ns ys rs ss j = false) ∧ ∃ u1 u2 u3 : Option V, σ = [some (.ref n), some (.ref r), some (.ref t), some (.ref o), some (.ref y), some (.int (-1)), u1, u2, u3]) ⟨s3, fun j hj => absurd hj (Nat.not_lt_zero _), _, _, _, rfl⟩ ?_ ?_
          · rintro i σ H4 hi ⟨s4, hb3, u1, u2, u3, rfl⟩
            rw [e1] at hi
            have ei : ((0 : Int) + (i : Int)) = ((i : Nat) : Int) := by omega
            rw [ei]
            have hs0 : ss[i]? = some ss[i] := List.getElem?_eq_getElem hi
            obtain ⟨b, et, ho⟩ := hTs.ex hs0
            generalize ss[i] = s0 at hs0 ho
            obtain ⟨sn, sl, smo⟩ := s0
            have hsk := hok (sn, sl, smo) (List.mem_of_getElem? hs0)
            obtain ⟨m, rr, en, hr3, hcn, egr⟩ := okSpan_row hsk
            have en : sn = ((m : Nat) : Int) := en
            obtain ⟨rb, er, hrb⟩ : ∃ rb, rts[m]? = some rb ∧ SqA K H rb (sv rr) := by
              have hm : m < rts.length := by rw [hRs.len]; exact (List.getElem?_eq_some_iff.mp hr3).1
              exact ⟨rts[m], List.getElem?_eq_getElem hm, hRs.at_ m _ _ (List.getElem?_eq_getElem hm) hr3⟩
            have at_b : atI (ts.map V.ref) ((i : Nat) : Int) = some (V.ref b) := atR_of et
            have at_0 : atI (v3 (sn, sl, smo)) 0 = some (V.int ((m : Nat) : Int)) := by rw [← en]; exact atI_nat (j := 0) rfl
            have at_1 : atI (v3 (sn, sl, smo)) 1 = some (V.int sl) := atI_nat (j := 1) rfl
            have at_2 : atI (v3 (sn, sl, smo)) 2 = some (optI smo) := atI_nat (j := 2) rfl
            have at_r : atI (rts.map V.ref) ((m : Nat) : Int) = some (V.ref rb) := atR_of er
            refine ⟨_, rfl, _, rfl, _, rfl, _, rfl, _, rfl, t, _, _, _, rfl, rfl, s4.seq hTd, at_b, b, _, _, _, rfl, rfl, s4.tup ho, at_0, r, _, _, _, rfl, rfl, s4.seq hR, at_r, o, y, rb, ns, rr, ys, rfl, s4.seq hO, s4.seq hY, s4.sqa hrb, hl, by omega, plc_ne hpm hcn, fun f g a b2 H5 hf5 hg5 ha5 hb5 s5 => ?_⟩
            have etm := timeZ_at hf5 hg5 ha5 hb5
            have s5 := s4.trans s5
            have ret : brk ns ys rs (sn, sl, smo) = true → ∀ q, H5 q = none → Q (.ref q) (upd H5 q (.tup [.str "span", .int (i : Nat)])) := fun hbt q hq => fin (.span i) (due_span hf hany hyf (firstI_some hi (by rw [brkAt_at hs0]; exact hbt) hb3)) H5 s5 q hq
            have okk : brk ns ys rs (sn, sl, smo) = false → ∀ j, j < i + 1 → brkAt ns ys rs ss j = false := fun h j hj => by
              rcases Nat.lt_succ_iff_lt_or_eq.mp hj with q | q
              · exact hb3 j q
              · rw [q, brkAt_at hs0]; exact h
            have eb : brk ns ys rs (sn, sl, smo) = (decide (b2 - a < sl) || moreB (b2 - a) smo) := by unfold brk; rw [egr, etm]
            refine ⟨_, rfl, _, rfl, _, rfl, t, _, _, _, rfl, rfl, s5.seq hTd, at_b, b, _, _, _, rfl, rfl, s5.tup ho, at_1, _, _, rfl, rfl, _, rfl, ?_⟩
            by_cases hlt : b2 - a < sl
            · exact itY hlt (ifT rfl ⟨_, rfl, by show 2 ≤ sizeLine; decide, fun q hq => ret (by rw [eb, decide_eq_true hlt]; rfl) q hq⟩)
            · refine itN hlt ?_
              rw [decide_eq_false hlt, Bool.false_or] at eb
              refine ⟨_, rfl, _, rfl, t, _, _, _, rfl, rfl, s5.seq hTd, at_b, b, _, _, _, rfl, rfl, s5.tup ho, at_2, ?_⟩
              cases smo with
              | none => exact ⟨rfl, _, rfl, ifF (by rw [decide_eq_true (show optI none = V.non from rfl)]; rfl) (ifF rfl ⟨s5, okk eb, _, _, _, rfl⟩)⟩
              | some m2 =>
                refine ⟨rfl, _, rfl, ifT (by rw [decide_eq_false (show optI (some m2) ≠ V.non from fun z => nomatch z)]; rfl) ⟨_, rfl, _, rfl, _, rfl, t, _, _, _, rfl, rfl, s5.seq hTd, at_b, b, _, _, _, rfl, rfl, s5.tup ho, at_2, _, _, rfl, rfl, _, rfl, ?_⟩⟩
                by_cases hm : m2 < b2 - a
                · exact ifT (decide_eq_true hm) ⟨_, rfl, by show 2 ≤ sizeLine; decide, fun q hq => ret (by rw [eb]; exact decide_eq_true hm) q hq⟩
                · exact ifF (decide_eq_false hm) ⟨s5, okk (by rw [eb]; exact decide_eq_false hm), _, _, _, rfl⟩
          · rintro σ H4 ⟨s4, hb3, u1, u2, u3, rfl⟩
            rw [e1] at hb3
            exact ⟨by show 2 ≤ sizeLine; decide, fun q hq => fin .ok (due_ok hf hany hyf (firstI_none hb3)) H4 s4 q hq⟩
end
end My
set_option maxRecDepth 100000
set_option maxHeartbeats 8000000
set_option exponentiation.threshold 10000
namespace My
open PySem L2
section
variable {P : Program} {w : World} {K : PySem.W.Frag} {mg : Str → Option Value} {base : Heap} {A : Ad}
theorem Txt.ecNL (T : Txt P K mg A) : ExcC K A.C_NotLayout := ⟨T.e1_NotLayout, T.e2_NotLayout, T.bp_NotLayout, T.e3_NotLayout, T.e4_NotLayout, T.c2, T.c4, T.e5_NotLayout⟩
def spChecked (so sy : Hp → Addr → List V → Prop) (K : PySem.W.Frag) (A : Ad) : Sp := fun vs H Q _ => ∃ p tb o y cs rs ss ns, ∃ ys : List Int, vs = [.ref p, .ref o, .ref y] ∧ Sps A.C_Spans A.C_Table K H p tb cs rs ss ∧ so H o (sv ns) ∧ sy H y (ivs ys) ∧ ns.length ≤ 1000 ∧ ys.length ≤ 1000 ∧ rs.length ≤ 48 ∧ ss.length ≤ 1000 ∧ ColsOk cs ∧ (∀ s ∈ ss, okSpan cs rs s = true) ∧
  ∀ q fl H', Same H H' → H' q = some (.tup [.str (wordF (dueF cs rs ss ns ys)), .int (numF (dueF cs rs ss ns ys) : Nat), .ref fl]) → H' fl = some (.lst [.bl true, .bl false, .bl false]) → Q (.ref q) H'
theorem ok_checked (T : Txt P K mg A) : FnOk P w K mg base CX0 10 A.a_law_checked A.d_law_checked ["spans", "order", "years"] (spChecked (SqL K) (SqL K) K A) := by
  have GX_check_years := ok_years (P := P) (w := w) (base := base) T
  refine T.F_law_checked.ok sc_law_checked (fun vs H Q E h => ?_) (fun cdv A' outer s H vs Q E hr h => ?_)
  · obtain ⟨p, tb, o, y, cs, rs, ss, ns, ys, rfl, _⟩ := h
    rfl
  · obtain ⟨p, tb, o, y, cs, rs, ss, ns, ys, rfl, hS, hO, hY, hl, hyl, hrl, hsl, ok, hok, k⟩ := h
    refine ⟨_, (pss_cons (ps_set (i := 3) sc_law_checked.nd rfl (Or.inl rfl) (pe_tup (pa_cons pe_str (pa_cons pe_int (pa_cons (pe_lst pa_nil) pa_nil)))))
      (pss_cons (ps_try_as_many (i := 4) (Wout := fun _ _ _ _ => False) rfl rfl sc_law_checked.nd rfl rfl takes0 (fun W pn xe tk _ => (pss_one (ps_if (pt_cmpR op_isN (pe_callS GX_check_years (hr.mono (by decide)) rfl T.mg_check_years T.F_check_years.kp T.b_check_years (fun σ => passAt tk σ) (pa_cons (pv 0) (pa_cons (pv 1) (pa_cons (pv 2) pa_nil)))) pe_non (nomark _)) (pss_one (ps_set (i := 3) sc_law_checked.nd rfl (Or.inl rfl) (pe_tup (pa_cons pe_str (pa_cons pe_int (pa_cons (pe_lst (pa_cons pe_bl (pa_cons pe_bl (pa_cons pe_bl pa_nil)))) pa_nil)))))) pss_nil))) (.cons ⟨rfl, by decide, .inl T.mg_BadOrder⟩ (fun a oe cls d pn hz hf => (pss_one (ps_set (i := 3) sc_law_checked.nd rfl (Or.inl rfl) (pe_tup (pa_cons pe_str (pa_cons (pe_xf T.xf_BadOrder T.xn_BadOrder_index hz hf (pv 4)) (pa_cons (pe_lst (pa_cons (pe_callB (call_isExD hz hf) (by rfl) T.n_isinstance (by decide +kernel) (pa_cons (pv 4) (pa_cons (pe_glob (v := .ref A.C_RowsError) rfl T.mg_RowsError rfl) pa_nil))) (pa_cons (pe_callB (call_isExD hz hf) (by rfl) T.n_isinstance (by decide +kernel) (pa_cons (pv 4) (pa_cons (pe_glob (v := .ref A.C_Unknown) rfl T.mg_Unknown rfl) pa_nil))) (pa_cons (pe_callB (call_isExD hz hf) (by rfl) T.n_isinstance (by decide +kernel) (pa_cons (pv 4) (pa_cons (pe_glob (v := .ref A.C_Impossible) rfl T.mg_Impossible rfl) pa_nil))) pa_nil)))) pa_nil))))))) (.cons ⟨rfl, by decide, .inl T.mg_NotLayout⟩ (fun a oe cls d pn hz hf => (pss_one (ps_set (i := 3) sc_law_checked.nd rfl (Or.inl rfl) (pe_tup (pa_cons pe_str (pa_cons pe_int (pa_cons (pe_lst (pa_cons (pe_callB (call_isEx hz hf) (by rfl) T.n_isinstance (by decide +kernel) (pa_cons (pv 4) (pa_cons (pe_glob (v := .ref A.C_RowsError) rfl T.mg_RowsError rfl) pa_nil))) (pa_cons (pe_callB (call_isEx hz hf) (by rfl) T.n_isinstance (by decide +kernel) (pa_cons (pv 4) (pa_cons (pe_glob (v := .ref A.C_Unknown) rfl T.mg_Unknown rfl) pa_nil))) (pa_cons (pe_callB (call_isEx hz hf) (by rfl) T.n_isinstance (by decide +kernel) (pa_cons (pv 4) (pa_cons (pe_glob (v := .ref A.C_Impossible) rfl T.mg_Impossible rfl) pa_nil))) pa_nil)))) pa_nil))))))) (.cons ⟨rfl, by decide, .inl T.mg_BadYears⟩ (fun a oe cls d pn hz hf => (pss_one (ps_set (i := 3) sc_law_checked.nd rfl (Or.inl rfl) (pe_tup (pa_cons pe_str (pa_cons (pe_xf T.xf_BadYears T.xn_BadYears_index hz hf (pv 4)) (pa_cons (pe_lst (pa_cons (pe_callB (call_isExD hz hf) (by rfl) T.n_isinstance (by decide +kernel) (pa_cons (pv 4) (pa_cons (pe_glob (v := .ref A.C_RowsError) rfl T.mg_RowsError rfl) pa_nil))) (pa_cons (pe_callB (call_isExD hz hf) (by rfl) T.n_isinstance (by decide +kernel) (pa_cons (pv 4) (pa_cons (pe_glob (v := .ref A.C_Unknown) rfl T.mg_Unknown rfl) pa_nil))) (pa_cons (pe_callB (call_isExD hz hf) (by rfl) T.n_isinstance (by decide +kernel) (pa_cons (pv 4) (pa_cons (pe_glob (v := .ref A.C_Impossible) rfl T.mg_Impossible rfl) pa_nil))) pa_nil)))) pa_nil))))))) (.cons ⟨rfl, by decide, .inl T.mg_BrokenSpan⟩ (fun a oe cls d pn hz hf => (pss_one (ps_set (i := 3) sc_law_checked.nd rfl (Or.inl rfl) (pe_tup (pa_cons pe_str (pa_cons (pe_xf T.xf_BrokenSpan T.xn_BrokenSpan_index hz hf (pv 4)) (pa_cons (pe_lst (pa_cons (pe_callB (call_isExD hz hf) (by rfl) T.n_isinstance (by decide +kernel) (pa_cons (pv 4) (pa_cons (pe_glob (v := .ref A.C_RowsError) rfl T.mg_RowsError rfl) pa_nil))) (pa_cons (pe_callB (call_isExD hz hf) (by rfl) T.n_isinstance (by decide +kernel) (pa_cons (pv 4) (pa_cons (pe_glob (v := .ref A.C_Unknown) rfl T.mg_Unknown rfl) pa_nil))) (pa_cons (pe_callB (call_isExD hz hf) (by rfl) T.n_isinstance (by decide +kernel) (pa_cons (pv 4) (pa_cons (pe_glob (v := .ref A.C_Impossible) rfl T.mg_Impossible rfl) pa_nil))) pa_nil)))) pa_nil))))))) .nil)))))
      (pss_one (ps_ret (pv 3))))), ?_⟩
    refine ⟨by show 0 ≤ sizeLine; decide, fun l0 hl0 => ⟨by show 3 ≤ sizeLine; decide, fun t0 ht0 => ?_⟩⟩
    have s0 := (same_new (o := .lst []) hl0).trans (same_new (o := .tup [V.str "other", .int 0, .ref l0]) ht0)
    generalize upd (upd H l0 _) t0 _ = H0 at s0 ⊢
    have fin : ∀ (d : Fd), dueF cs rs ss ns ys = d → ∀ H2, Same H H2 → ∀ kk, H2 kk = none → ∀ q, upd H2 kk (.lst [.bl true, .bl false, .bl false]) q = none → Q (.ref q) (upd (upd H2 kk (.lst [.bl true, .bl false, .bl false])) q (.tup [.str (wordF d), .int (numF d : Nat), .ref kk])) := fun d e H2 s2 kk hkk q hq => by
      have := k q kk _ (s2.trans ((same_new hkk).trans (same_new hq))) (by rw [e]; exact upd_same) (by rw [upd_ne (ne_of_none upd_same hq)]; exact upd_same)
      exact this
    have j1BadOrder : PySem.W.kitOne K (.ref A.C_BadOrder) (.ref A.C_RowsError) = some true := kit_own T.ic_RowsError T.tp_RowsError T.su_BadOrder_RowsError (.inr rfl)
    have j2BadOrder : PySem.W.kitOne K (.ref A.C_BadOrder) (.ref A.C_Unknown) = some false := kit_F T.ic_Unknown T.tp_Unknown T.su_BadOrder_Unknown T.ss_BadOrder
    have j3BadOrder : PySem.W.kitOne K (.ref A.C_BadOrder) (.ref A.C_Impossible) = some false := kit_F T.ic_Impossible T.tp_Impossible T.su_BadOrder_Impossible T.ss_BadOrder
    have j1NotLayout : PySem.W.kitOne K (.ref A.C_NotLayout) (.ref A.C_RowsError) = some true := kit_own T.ic_RowsError T.tp_RowsError T.su_NotLayout_RowsError (.inr rfl)
    have j2NotLayout : PySem.W.kitOne K (.ref A.C_NotLayout) (.ref A.C_Unknown) = some false := kit_F T.ic_Unknown T.tp_Unknown T.su_NotLayout_Unknown T.ss_NotLayout
    have j3NotLayout : PySem.W.kitOne K (.ref A.C_NotLayout) (.ref A.C_Impossible) = some false := kit_F T.ic_Impossible T.tp_Impossible T.su_NotLayout_Impossible T.ss_NotLayout
    have j1BadYears : PySem.W.kitOne K (.ref A.C_BadYears) (.ref A.C_RowsError) = some true := kit_own T.ic_RowsError T.tp_RowsError T.su_BadYears_RowsError (.inr rfl)
    have j2BadYears : PySem.W.kitOne K (.ref A.C_BadYears) (.ref A.C_Unknown) = some false := kit_F T.ic_Unknown T.tp_Unknown T.su_BadYears_Unknown T.ss_BadYears
    have j3BadYears : PySem.W.kitOne K (.ref A.C_BadYears) (.ref A.C_Impossible) = some false := kit_F T.ic_Impossible T.tp_Impossible T.su_BadYears_Impossible T.ss_BadYears
    have j1BrokenSpan : PySem.W.kitOne K (.ref A.C_BrokenSpan) (.ref A.C_RowsError) = some true := kit_own T.ic_RowsError T.tp_RowsError T.su_BrokenSpan_RowsError (.inr rfl)
    have j2BrokenSpan : PySem.W.kitOne K (.ref A.C_BrokenSpan) (.ref A.C_Unknown) = some false := kit_F T.ic_Unknown T.tp_Unknown T.su_BrokenSpan_Unknown T.ss_BrokenSpan
    have j3BrokenSpan : PySem.W.kitOne K (.ref A.C_BrokenSpan) (.ref A.C_Impossible) = some false := kit_F T.ic_Impossible T.tp_Impossible T.su_BrokenSpan_Impossible T.ss_BrokenSpan
    refine ⟨_, rfl, _, rfl, _, rfl, p, tb, o, y, cs, rs, ss, ns, ys, rfl, hS.same s0, (fun s h => Same.seq s h) s0 hO, s0.seq hY, hl, hyl, hrl, hsl, ok, hok, fun i hdu d H6 s6 hd => ?_, fun hdu H6 s6 => ?_, fun i hdu d H6 s6 hd => ?_, fun i hdu d H6 s6 hd => ?_, fun hdu H6 s6 => ?_⟩
    · refine ⟨true, exm_self T.bp_BadOrder T.ic_BadOrder T.tp_BadOrder T.ss_BadOrder, fun _ e he => ?_, fun q => nomatch q⟩
      refine ⟨_, rfl, rfl, rfl, d, _, _, rfl, hd, rfl, _, rfl, _, _, _, rfl, rfl, hd, T.ec_BadOrder, _, _, true, rfl, fun _ h => h, j1BadOrder, _, rfl, _, _, _, rfl, rfl, hd, T.ec_BadOrder, _, _, false, rfl, fun _ h => h, j2BadOrder, _, rfl, _, _, _, rfl, rfl, hd, T.ec_BadOrder, _, _, false, rfl, fun _ h => h, j3BadOrder, by show 3 ≤ sizeLine; decide, fun kk hkk => ⟨by show 3 ≤ sizeLine; decide, fun t ht => ?_⟩⟩
      exact ⟨_, rfl, fin (.order i) hdu H6 (s0.trans s6) kk hkk t ht⟩
    · refine ⟨false, exm_F T.bp_BadOrder T.ic_BadOrder T.tp_BadOrder T.su_NotLayout_BadOrder, fun q => absurd q Bool.false_ne_true, fun _ => ⟨true, exm_self T.bp_NotLayout T.ic_NotLayout T.tp_NotLayout T.ss_NotLayout, fun _ e he => ?_, fun q => nomatch q⟩⟩
      refine ⟨_, rfl, _, rfl, rfl, T.ecNL, _, _, true, rfl, fun _ h => h, j1NotLayout, _, rfl, _, rfl, rfl, T.ecNL, _, _, false, rfl, fun _ h => h, j2NotLayout, _, rfl, _, rfl, rfl, T.ecNL, _, _, false, rfl, fun _ h => h, j3NotLayout, by show 3 ≤ sizeLine; decide, fun kk hkk => ⟨by show 3 ≤ sizeLine; decide, fun t ht => ?_⟩⟩
      exact ⟨_, rfl, fin .layout hdu H6 (s0.trans s6) kk hkk t ht⟩
    · refine ⟨false, exm_F T.bp_BadOrder T.ic_BadOrder T.tp_BadOrder T.su_BadYears_BadOrder, fun q => absurd q Bool.false_ne_true, fun _ => ⟨false, exm_F T.bp_NotLayout T.ic_NotLayout T.tp_NotLayout T.su_BadYears_NotLayout, fun q => absurd q Bool.false_ne_true, fun _ => ⟨true, exm_self T.bp_BadYears T.ic_BadYears T.tp_BadYears T.ss_BadYears, fun _ e he => ?_, fun q => nomatch q⟩⟩⟩
      refine ⟨_, rfl, rfl, rfl, d, _, _, rfl, hd, rfl, _, rfl, _, _, _, rfl, rfl, hd, T.ec_BadYears, _, _, true, rfl, fun _ h => h, j1BadYears, _, rfl, _, _, _, rfl, rfl, hd, T.ec_BadYears, _, _, false, rfl, fun _ h => h, j2BadYears, _, rfl, _, _, _, rfl, rfl, hd, T.ec_BadYears, _, _, false, rfl, fun _ h => h, j3BadYears, by show 3 ≤ sizeLine; decide, fun kk hkk => ⟨by show 3 ≤ sizeLine; decide, fun t ht => ?_⟩⟩
      exact ⟨_, rfl, fin (.years i) hdu H6 (s0.trans s6) kk hkk t ht⟩
    · refine ⟨false, exm_F T.bp_BadOrder T.ic_BadOrder T.tp_BadOrder T.su_BrokenSpan_BadOrder, fun q => absurd q Bool.false_ne_true, fun _ => ⟨false, exm_F T.bp_NotLayout T.ic_NotLayout T.tp_NotLayout T.su_BrokenSpan_NotLayout, fun q => absurd q Bool.false_ne_true, fun _ => ⟨false, exm_F T.bp_BadYears T.ic_BadYears T.tp_BadYears T.su_BrokenSpan_BadYears, fun q => absurd q Bool.false_ne_true, fun _ => ⟨true, exm_self T.bp_BrokenSpan T.ic_BrokenSpan T.tp_BrokenSpan T.ss_BrokenSpan, fun _ e he => ?_, fun q => nomatch q⟩⟩⟩⟩
      refine ⟨_, rfl, rfl, rfl, d, _, _, rfl, hd, rfl, _, rfl, _, _, _, rfl, rfl, hd, T.ec_BrokenSpan, _, _, true, rfl, fun _ h => h, j1BrokenSpan, _, rfl, _, _, _, rfl, rfl, hd, T.ec_BrokenSpan, _, _, false, rfl, fun _ h => h, j2BrokenSpan, _, rfl, _, _, _, rfl, rfl, hd, T.ec_BrokenSpan, _, _, false, rfl, fun _ h => h, j3BrokenSpan, by show 3 ≤ sizeLine; decide, fun kk hkk => ⟨by show 3 ≤ sizeLine; decide, fun t ht => ?_⟩⟩
      exact ⟨_, rfl, fin (.span i) hdu H6 (s0.trans s6) kk hkk t ht⟩
    · refine ⟨rfl, _, rfl, itY rfl ?_⟩
      refine ⟨by show 3 ≤ sizeLine; decide, fun kk hkk => ⟨by show 3 ≤ sizeLine; decide, fun t ht => ?_⟩⟩
      exact ⟨_, rfl, fin .ok hdu H6 (s0.trans s6) kk hkk t ht⟩
theorem ok_checkedT (T : Txt P K mg A) : FnOk P w K mg base CX0 10 A.a_law_checked A.d_law_checked ["spans", "order", "years"] (spChecked DT (SqT K) K A) := by
  have GX_check_yearsT := ok_yearsT (P := P) (w := w) (base := base) T
  refine T.F_law_checked.ok sc_law_checked (fun vs H Q E h => ?_) (fun cdv A' outer s H vs Q E hr h => ?_)
  · obtain ⟨p, tb, o, y, cs, rs, ss, ns, ys, rfl, _⟩ := h
    rfl
  · obtain ⟨p, tb, o, y, cs, rs, ss, ns, ys, rfl, hS, hO, hY, hl, hyl, hrl, hsl, ok, hok, k⟩ := h
    refine ⟨_, (pss_cons (ps_set (i := 3) sc_law_checked.nd rfl (Or.inl rfl) (pe_tup (pa_cons pe_str (pa_cons pe_int (pa_cons (pe_lst pa_nil) pa_nil)))))
      (pss_cons (ps_try_as_many (i := 4) (Wout := fun _ _ _ _ => False) rfl rfl sc_law_checked.nd rfl rfl takes0 (fun W pn xe tk _ => (pss_one (ps_if (pt_cmpR op_isN (pe_callS GX_check_yearsT (hr.mono (by decide)) rfl T.mg_check_years T.F_check_years.kp T.b_check_years (fun σ => passAt tk σ) (pa_cons (pv 0) (pa_cons (pv 1) (pa_cons (pv 2) pa_nil)))) pe_non (nomark _)) (pss_one (ps_set (i := 3) sc_law_checked.nd rfl (Or.inl rfl) (pe_tup (pa_cons pe_str (pa_cons pe_int (pa_cons (pe_lst (pa_cons pe_bl (pa_cons pe_bl (pa_cons pe_bl pa_nil)))) pa_nil)))))) pss_nil))) (.cons ⟨rfl, by decide, .inl T.mg_BadOrder⟩ (fun a oe cls d pn hz hf => (pss_one (ps_set (i := 3) sc_law_checked.nd rfl (Or.inl rfl) (pe_tup (pa_cons pe_str (pa_cons (pe_xf T.xf_BadOrder T.xn_BadOrder_index hz hf (pv 4)) (pa_cons (pe_lst (pa_cons (pe_callB (call_isExD hz hf) (by rfl) T.n_isinstance (by decide +kernel) (pa_cons (pv 4) (pa_cons (pe_glob (v := .ref A.C_RowsError) rfl T.mg_RowsError rfl) pa_nil))) (pa_cons (pe_callB (call_isExD hz hf) (by rfl) T.n_isinstance (by decide +kernel) (pa_cons (pv 4) (pa_cons (pe_glob (v := .ref A.C_Unknown) rfl T.mg_Unknown rfl) pa_nil))) (pa_cons (pe_callB (call_isExD hz hf) (by rfl) T.n_isinstance (by decide +kernel) (pa_cons (pv 4) (pa_cons (pe_glob (v := .ref A.C_Impossible) rfl T.mg_Impossible rfl) pa_nil))) pa_nil)))) pa_nil))))))) (.cons ⟨rfl, by decide, .inl T.mg_NotLayout⟩ (fun a oe cls d pn hz hf => (pss_one (ps_set (i := 3) sc_law_checked.nd rfl (Or.inl rfl) (pe_tup (pa_cons pe_str (pa_cons pe_int (pa_cons (pe_lst (pa_cons (pe_callB (call_isEx hz hf) (by rfl) T.n_isinstance (by decide +kernel) (pa_cons (pv 4) (pa_cons (pe_glob (v := .ref A.C_RowsError) rfl T.mg_RowsError rfl) pa_nil))) (pa_cons (pe_callB (call_isEx hz hf) (by rfl) T.n_isinstance (by decide +kernel) (pa_cons (pv 4) (pa_cons (pe_glob (v := .ref A.C_Unknown) rfl T.mg_Unknown rfl) pa_nil))) (pa_cons (pe_callB (call_isEx hz hf) (by rfl) T.n_isinstance (by decide +kernel) (pa_cons (pv 4) (pa_cons (pe_glob (v := .ref A.C_Impossible) rfl T.mg_Impossible rfl) pa_nil))) pa_nil)))) pa_nil))))))) (.cons ⟨rfl, by decide, .inl T.mg_BadYears⟩ (fun a oe cls d pn hz hf => (pss_one (ps_set (i := 3) sc_law_checked.nd rfl (Or.inl rfl) (pe_tup (pa_cons pe_str (pa_cons (pe_xf T.xf_BadYears T.xn_BadYears_index hz hf (pv 4)) (pa_cons (pe_lst (pa_cons (pe_callB (call_isExD hz hf) (by rfl) T.n_isinstance (by decide +kernel) (pa_cons (pv 4) (pa_cons (pe_glob (v := .ref A.C_RowsError) rfl T.mg_RowsError rfl) pa_nil))) (pa_cons (pe_callB (call_isExD hz hf) (by rfl) T.n_isinstance (by decide +kernel) (pa_cons (pv 4) (pa_cons (pe_glob (v := .ref A.C_Unknown) rfl T.mg_Unknown rfl) pa_nil))) (pa_cons (pe_callB (call_isExD hz hf) (by rfl) T.n_isinstance (by decide +kernel) (pa_cons (pv 4) (pa_cons (pe_glob (v := .ref A.C_Impossible) rfl T.mg_Impossible rfl) pa_nil))) pa_nil)))) pa_nil))))))) (.cons ⟨rfl, by decide, .inl T.mg_BrokenSpan⟩ (fun a oe cls d pn hz hf => (pss_one (ps_set (i := 3) sc_law_checked.nd rfl (Or.inl rfl) (pe_tup (pa_cons pe_str (pa_cons (pe_xf T.xf_BrokenSpan T.xn_BrokenSpan_index hz hf (pv 4)) (pa_cons (pe_lst (pa_cons (pe_callB (call_isExD hz hf) (by rfl) T.n_isinstance (by decide +kernel) (pa_cons (pv 4) (pa_cons (pe_glob (v := .ref A.C_RowsError) rfl T.mg_RowsError rfl) pa_nil))) (pa_cons (pe_callB (call_isExD hz hf) (by rfl) T.n_isinstance (by decide +kernel) (pa_cons (pv 4) (pa_cons (pe_glob (v := .ref A.C_Unknown) rfl T.mg_Unknown rfl) pa_nil))) (pa_cons (pe_callB (call_isExD hz hf) (by rfl) T.n_isinstance (by decide +kernel) (pa_cons (pv 4) (pa_cons (pe_glob (v := .ref A.C_Impossible) rfl T.mg_Impossible rfl) pa_nil))) pa_nil)))) pa_nil))))))) .nil)))))
      (pss_one (ps_ret (pv 3))))), ?_⟩
    refine ⟨by show 0 ≤ sizeLine; decide, fun l0 hl0 => ⟨by show 3 ≤ sizeLine; decide, fun t0 ht0 => ?_⟩⟩
    have s0 := (same_new (o := .lst []) hl0).trans (same_new (o := .tup [V.str "other", .int 0, .ref l0]) ht0)
    generalize upd (upd H l0 _) t0 _ = H0 at s0 ⊢
    have fin : ∀ (d : Fd), dueF cs rs ss ns ys = d → ∀ H2, Same H H2 → ∀ kk, H2 kk = none → ∀ q, upd H2 kk (.lst [.bl true, .bl false, .bl false]) q = none → Q (.ref q) (upd (upd H2 kk (.lst [.bl true, .bl false, .bl false])) q (.tup [.str (wordF d), .int (numF d : Nat), .ref kk])) := fun d e H2 s2 kk hkk q hq => by
      have := k q kk _ (s2.trans ((same_new hkk).trans (same_new hq))) (by rw [e]; exact upd_same) (by rw [upd_ne (ne_of_none upd_same hq)]; exact upd_same)
      exact this
    have j1BadOrder : PySem.W.kitOne K (.ref A.C_BadOrder) (.ref A.C_RowsError) = some true := kit_own T.ic_RowsError T.tp_RowsError T.su_BadOrder_RowsError (.inr rfl)
    have j2BadOrder : PySem.W.kitOne K (.ref A.C_BadOrder) (.ref A.C_Unknown) = some false := kit_F T.ic_Unknown T.tp_Unknown T.su_BadOrder_Unknown T.ss_BadOrder
    have j3BadOrder : PySem.W.kitOne K (.ref A.C_BadOrder) (.ref A.C_Impossible) = some false := kit_F T.ic_Impossible T.tp_Impossible T.su_BadOrder_Impossible T.ss_BadOrder
    have j1NotLayout : PySem.W.kitOne K (.ref A.C_NotLayout) (.ref A.C_RowsError) = some true := kit_own T.ic_RowsError T.tp_RowsError T.su_NotLayout_RowsError (.inr rfl)
    have j2NotLayout : PySem.W.kitOne K (.ref A.C_NotLayout) (.ref A.C_Unknown) = some false := kit_F T.ic_Unknown T.tp_Unknown T.su_NotLayout_Unknown T.ss_NotLayout
    have j3NotLayout : PySem.W.kitOne K (.ref A.C_NotLayout) (.ref A.C_Impossible) = some false := kit_F T.ic_Impossible T.tp_Impossible T.su_NotLayout_Impossible T.ss_NotLayout
    have j1BadYears : PySem.W.kitOne K (.ref A.C_BadYears) (.ref A.C_RowsError) = some true := kit_own T.ic_RowsError T.tp_RowsError T.su_BadYears_RowsError (.inr rfl)
    have j2BadYears : PySem.W.kitOne K (.ref A.C_BadYears) (.ref A.C_Unknown) = some false := kit_F T.ic_Unknown T.tp_Unknown T.su_BadYears_Unknown T.ss_BadYears
    have j3BadYears : PySem.W.kitOne K (.ref A.C_BadYears) (.ref A.C_Impossible) = some false := kit_F T.ic_Impossible T.tp_Impossible T.su_BadYears_Impossible T.ss_BadYears
    have j1BrokenSpan : PySem.W.kitOne K (.ref A.C_BrokenSpan) (.ref A.C_RowsError) = some true := kit_own T.ic_RowsError T.tp_RowsError T.su_BrokenSpan_RowsError (.inr rfl)
    have j2BrokenSpan : PySem.W.kitOne K (.ref A.C_BrokenSpan) (.ref A.C_Unknown) = some false := kit_F T.ic_Unknown T.tp_Unknown T.su_BrokenSpan_Unknown T.ss_BrokenSpan
    have j3BrokenSpan : PySem.W.kitOne K (.ref A.C_BrokenSpan) (.ref A.C_Impossible) = some false := kit_F T.ic_Impossible T.tp_Impossible T.su_BrokenSpan_Impossible T.ss_BrokenSpan
    refine ⟨_, rfl, _, rfl, _, rfl, p, tb, o, y, cs, rs, ss, ns, ys, rfl, hS.same s0, (fun s h => DT.same h s) s0 hO, s0.tup hY, hl, hyl, hrl, hsl, ok, hok, fun i hdu d H6 s6 hd => ?_, fun hdu H6 s6 => ?_, fun i hdu d H6 s6 hd => ?_, fun i hdu d H6 s6 hd => ?_, fun hdu H6 s6 => ?_⟩
    · refine ⟨true, exm_self T.bp_BadOrder T.ic_BadOrder T.tp_BadOrder T.ss_BadOrder, fun _ e he => ?_, fun q => nomatch q⟩
      refine ⟨_, rfl, rfl, rfl, d, _, _, rfl, hd, rfl, _, rfl, _, _, _, rfl, rfl, hd, T.ec_BadOrder, _, _, true, rfl, fun _ h => h, j1BadOrder, _, rfl, _, _, _, rfl, rfl, hd, T.ec_BadOrder, _, _, false, rfl, fun _ h => h, j2BadOrder, _, rfl, _, _, _, rfl, rfl, hd, T.ec_BadOrder, _, _, false, rfl, fun _ h => h, j3BadOrder, by show 3 ≤ sizeLine; decide, fun kk hkk => ⟨by show 3 ≤ sizeLine; decide, fun t ht => ?_⟩⟩
      exact ⟨_, rfl, fin (.order i) hdu H6 (s0.trans s6) kk hkk t ht⟩
    · refine ⟨false, exm_F T.bp_BadOrder T.ic_BadOrder T.tp_BadOrder T.su_NotLayout_BadOrder, fun q => absurd q Bool.false_ne_true, fun _ => ⟨true, exm_self T.bp_NotLayout T.ic_NotLayout T.tp_NotLayout T.ss_NotLayout, fun _ e he => ?_, fun q => nomatch q⟩⟩
      refine ⟨_, rfl, _, rfl, rfl, T.ecNL, _, _, true, rfl, fun _ h => h, j1NotLayout, _, rfl, _, rfl, rfl, T.ecNL, _, _, false, rfl, fun _ h => h, j2NotLayout, _, rfl, _, rfl, rfl, T.ecNL, _, _, false, rfl, fun _ h => h, j3NotLayout, by show 3 ≤ sizeLine; decide, fun kk hkk => ⟨by show 3 ≤ sizeLine; decide, fun t ht => ?_⟩⟩
      exact ⟨_, rfl, fin .layout hdu H6 (s0.trans s6) kk hkk t ht⟩
    · refine ⟨false, exm_F T.bp_BadOrder T.ic_BadOrder T.tp_BadOrder T.su_BadYears_BadOrder, fun q => absurd q Bool.false_ne_true, fun _ => ⟨false, exm_F T.bp_NotLayout T.ic_NotLayout T.tp_NotLayout T.su_BadYears_NotLayout, fun q => absurd q Bool.false_ne_true, fun _ => ⟨true, exm_self T.bp_BadYears T.ic_BadYears T.tp_BadYears T.ss_BadYears, fun _ e he => ?_, fun q => nomatch q⟩⟩⟩
      refine ⟨_, rfl, rfl, rfl, d, _, _, rfl, hd, rfl, _, rfl, _, _, _, rfl, rfl, hd, T.ec_BadYears, _, _, true, rfl, fun _ h => h, j1BadYears, _, rfl, _, _, _, rfl, rfl, hd, T.ec_BadYears, _, _, false, rfl, fun _ h => h, j2BadYears, _, rfl, _, _, _, rfl, rfl, hd, T.ec_BadYears, _, _, false, rfl, fun _ h => h, j3BadYears, by show 3 ≤ sizeLine; decide, fun kk hkk => ⟨by show 3 ≤ sizeLine; decide, fun t ht => ?_⟩⟩
      exact ⟨_, rfl, fin (.years i) hdu H6 (s0.trans s6) kk hkk t ht⟩
    · refine ⟨false, exm_F T.bp_BadOrder T.ic_BadOrder T.tp_BadOrder T.su_BrokenSpan_BadOrder, fun q => absurd q Bool.false_ne_true, fun _ => ⟨false, exm_F T.bp_NotLayout T.ic_NotLayout T.tp_NotLayout T.su_BrokenSpan_NotLayout, fun q => absurd q Bool.false_ne_true, fun _ => ⟨false, exm_F T.bp_BadYears T.ic_BadYears T.tp_BadYears T.su_BrokenSpan_BadYears, fun q => absurd q Bool.false_ne_true, fun _ => ⟨true, exm_self T.bp_BrokenSpan T.ic_BrokenSpan T.tp_BrokenSpan T.ss_BrokenSpan, fun _ e he => ?_, fun q => nomatch q⟩⟩⟩⟩
      refine ⟨_, rfl, rfl, rfl, d, _, _, rfl, hd, rfl, _, rfl, _, _, _, rfl, rfl, hd, T.ec_BrokenSpan, _, _, true, rfl, fun _ h => h, j1BrokenSpan, _, rfl, _, _, _, rfl, rfl, hd, T.ec_BrokenSpan, _, _, false, rfl, fun _ h => h, j2BrokenSpan, _, rfl, _, _, _, rfl, rfl, hd, T.ec_BrokenSpan, _, _, false, rfl, fun _ h => h, j3BrokenSpan, by show 3 ≤ sizeLine; decide, fun kk hkk => ⟨by show 3 ≤ sizeLine; decide, fun t ht => ?_⟩⟩
      exact ⟨_, rfl, fin (.span i) hdu H6 (s0.trans s6) kk hkk t ht⟩
    · refine ⟨rfl, _, rfl, itY rfl ?_⟩
      refine ⟨by show 3 ≤ sizeLine; decide, fun kk hkk => ⟨by show 3 ≤ sizeLine; decide, fun t ht => ?_⟩⟩
      exact ⟨_, rfl, fin .ok hdu H6 (s0.trans s6) kk hkk t ht⟩
end
end My
set_option maxRecDepth 100000
set_option maxHeartbeats 8000000
set_option exponentiation.threshold 10000
namespace My
open PySem L2
open C8 (pss_cut)
section
variable {P : Program} {w : World} {K : PySem.W.Frag} {mg : Str → Option Value} {base : Heap} {A : Ad}
def spRefused (K : PySem.W.Frag) (A : Ad) : Sp := fun vs H Q _ => ∃ tb l cs rs ts ss i, vs = [.ref tb, .ref l] ∧ Tb A.C_Table H tb cs rs ∧ rs.length ≤ 48 ∧ SqL K H l (ts.map V.ref) ∧ Tl (SqA K) H ts ss ∧ ss.length ≤ 1000 ∧ spanFault cs rs ss = some i ∧
  ∀ H', Same H H' → Q (.int (i : Nat)) H'
theorem ok_refused (T : Txt P K mg A) : FnOk P w K mg base CX0 6 A.a_law_refused A.d_law_refused ["table", "told"] (spRefused K A) := by
  have GX_Spans_init := ok_spansX (P := P) (w := w) (base := base) T
  refine T.F_law_refused.ok sc_law_refused (fun vs H Q E h => ?_) (fun cdv A' outer s H vs Q E hr h => ?_)
  · obtain ⟨tb, l, cs, rs, ts, ss, i, rfl, _⟩ := h
    rfl
  · obtain ⟨tb, l, cs, rs, ts, ss, i, rfl, hT, hrl, hL, hs, hsl, hf, k⟩ := h
    refine ⟨_, (pss_cons (ps_set (i := 2) sc_law_refused.nd rfl (Or.inl rfl) (pe_tup (pa_cons pe_non (pa_cons (pe_lst pa_nil) pa_nil))))
      (pss_cons (ps_try_as (i := 3) (Wout := fun _ _ _ _ => False) rfl rfl sc_law_refused.nd rfl rfl ⟨rfl, by decide, .inl T.mg_BadSpan⟩ takes0 (fun W pn xe tk _ => (pss_one (ps_expr (pe_makeS T.mk_Spans GX_Spans_init (hr.mono (by decide)) rfl T.mg_Spans T.b_Spans_init (fun σ => passAt tk σ) (pa_cons (pv 0) (pa_cons (pv 1) pa_nil)))))) (fun a oe cls d pn hz hf => (pss_one (ps_set (i := 2) sc_law_refused.nd rfl (Or.inl rfl) (pe_tup (pa_cons (pe_xf T.xf_BadSpan T.xn_BadSpan_index hz hf (pv 3)) (pa_cons (pe_lst (pa_cons (pe_callB (call_isExD hz hf) (by rfl) T.n_isinstance (by decide +kernel) (pa_cons (pv 3) (pa_cons (pe_glob (v := .ref A.C_RowsError) rfl T.mg_RowsError rfl) pa_nil))) (pa_cons (pe_callB (call_isExD hz hf) (by rfl) T.n_isinstance (by decide +kernel) (pa_cons (pv 3) (pa_cons (pe_glob (v := .ref A.C_Unknown) rfl T.mg_Unknown rfl) pa_nil))) (pa_cons (pe_callB (call_isExD hz hf) (by rfl) T.n_isinstance (by decide +kernel) (pa_cons (pv 3) (pa_cons (pe_glob (v := .ref A.C_Impossible) rfl T.mg_Impossible rfl) pa_nil))) pa_nil)))) pa_nil)))))))
      (pss_cons (ps_if (pt_cmpR (op_eqD hr.units) (pe_ix ix_tup (pv 2) pe_int (fun _ _ => rfl)) (pe_lst (pa_cons pe_bl (pa_cons pe_bl (pa_cons pe_bl pa_nil)))) (nomark _)) (pss_one (ps_ret (pe_ix ix_tup (pv 2) pe_int (fun _ _ => rfl)))) pss_nil)
      (pss_one (ps_ret pe_non))))), ?_⟩
    refine ⟨by show 0 ≤ sizeLine; decide, fun l0 hl0 => ⟨by show 2 ≤ sizeLine; decide, fun t0 ht0 => ?_⟩⟩
    have s0 := (same_new (o := .lst []) hl0).trans (same_new (o := .tup [V.non, .ref l0]) ht0)
    generalize upd (upd H l0 _) t0 _ = H0 at s0 ⊢
    refine ⟨_, rfl, _, rfl, fun x dx nx ndx nex => ?_⟩
    have s1 := s0.trans ((same_new (o := .own x) ndx).trans (same_new (o := .ins A.C_Spans dx []) (show upd H0 dx (.own x) x = none by rw [upd_ne nex.symm]; exact nx)))
    have hx1 := upd_same (H := upd H0 dx (.own x)) (a := x) (o := .ins A.C_Spans dx [])
    generalize upd (upd H0 dx _) x _ = H1 at s1 hx1 ⊢
    refine ⟨x, tb, l, dx, cs, rs, ts, ss, rfl, hx1, hT.same s1, hrl, s1.seq hL, hs.imp (fun t s q => s1.sqa q), hsl, fun j hj d H6 s6 hd => ?_, fun hno => by rw [hf] at hno; cases hno⟩
    rw [hf] at hj; cases hj
    have s6 := s1.trans s6
    refine ⟨true, exm_self T.bp_BadSpan T.ic_BadSpan T.tp_BadSpan T.ss_BadSpan, fun _ e he => ?_, fun q => nomatch q⟩
    have k1 : PySem.W.kitOne K (.ref A.C_BadSpan) (.ref A.C_RowsError) = some true := kit_own T.ic_RowsError T.tp_RowsError T.su_BadSpan_RowsError (.inr rfl)
    have k2 : PySem.W.kitOne K (.ref A.C_BadSpan) (.ref A.C_Unknown) = some false := kit_F T.ic_Unknown T.tp_Unknown T.su_BadSpan_Unknown T.ss_BadSpan
    have k3 : PySem.W.kitOne K (.ref A.C_BadSpan) (.ref A.C_Impossible) = some false := kit_F T.ic_Impossible T.tp_Impossible T.su_BadSpan_Impossible T.ss_BadSpan
    refine ⟨_, rfl, rfl, rfl, d, _, _, rfl, hd, rfl, _, rfl, _, _, _, rfl, rfl, hd, T.ec_BadSpan, _, _, true, rfl, fun _ h => h, k1, _, rfl, _, _, _, rfl, rfl, hd, T.ec_BadSpan, _, _, false, rfl, fun _ h => h, k2, _, rfl, _, _, _, rfl, rfl, hd, T.ec_BadSpan, _, _, false, rfl, fun _ h => h, k3, by show 3 ≤ sizeLine; decide, fun kk hkk => ⟨by show 2 ≤ sizeLine; decide, fun t ht => ?_⟩⟩
    have s8 := s6.trans ((same_new (o := .lst [V.bl true, .bl false, .bl false]) hkk).trans (same_new (o := .tup [V.int (i : Nat), .ref kk]) ht))
    have hkt : kk ≠ t := ne_of_none upd_same ht
    have hk8 : upd (upd H6 kk (.lst [V.bl true, .bl false, .bl false])) t (.tup [V.int (i : Nat), .ref kk]) kk = some (.lst [V.bl true, .bl false, .bl false]) := by rw [upd_ne hkt]; exact upd_same
    have ht8 := upd_same (H := upd H6 kk (.lst [V.bl true, .bl false, .bl false])) (a := t) (o := .tup [V.int (i : Nat), .ref kk])
    generalize upd (upd H6 kk _) t _ = H8 at s8 hk8 ht8 ⊢
    refine ⟨_, rfl, t, _, _, _, rfl, rfl, SqT.of ht8, atI_nat (j := 1) rfl, by show 3 ≤ sizeLine; decide, fun k2 hk2 => ?_⟩
    have s9 := same_new (o := .lst [V.bl true, .bl false, .bl false]) hk2
    refine ⟨.list [.bool true, .bool false, .bool false], .list [.bool true, .bool false, .bool false], .lst (SqL.of (s9 _ _ hk8)) (dpAll_bl [true, false, false]), .lst (SqL.of upd_same) (dpAll_bl [true, false, false]), by decide, by decide, ?_⟩
    rw [show PyData.eqv (.list [.bool true, .bool false, .bool false]) (.list [.bool true, .bool false, .bool false]) = true by decide]
    refine ⟨_, rfl, ifT rfl ?_⟩
    exact ⟨_, rfl, t, _, _, _, rfl, rfl, SqT.of (s9 _ _ ht8), atI_nat (j := 0) rfl, k _ (s8.trans s9)⟩
def spSpansQ (K : PySem.W.Frag) (A : Ad) : Sp := fun vs H Q _ => ∃ p tb l dx cs rs ts ss, vs = [.ref p, .ref tb, .ref l] ∧ H p = some (.ins A.C_Spans dx []) ∧ Tb A.C_Table H tb cs rs ∧ rs.length ≤ 48 ∧ SqL K H l (ts.map V.ref) ∧ Tl (SqA K) H ts ss ∧ ss.length ≤ 24 ∧ (∀ s ∈ ss, okSpan cs rs s = true) ∧
  ∀ H', (∀ b o, b ≠ p → H b = some o → H' b = some o) → Sps A.C_Spans A.C_Table K H' p tb cs rs ss → Q .non H'
theorem fault_ok {cs : List Str} {rs : List (List Str)} {ss : List TSp} (h : ss.length ≤ 24) (ok : ∀ s ∈ ss, okSpan cs rs s = true) : spanFault cs rs ss = none := by
  unfold spanFault
  rw [if_neg (by omega)]
  refine firstI_none fun j hj => ?_
  rw [badSp_at (List.getElem?_eq_getElem hj), ok _ (List.getElem_mem hj)]; rfl
theorem ok_spans (T : Txt P K mg A) : FnOk P w K mg base CX0 4 A.a_Spans_init A.d_Spans_init ["self", "table", "told"] (spSpansQ K A) := quiet (ok_spansX T) fun vs H Q E ⟨p, tb, l, dx, cs, rs, ts, ss, e, h1, h2, h3, h4, h5, h6, h7, k⟩ =>
  ⟨p, tb, l, dx, cs, rs, ts, ss, e, h1, h2, h3, h4, h5, Nat.le_trans h6 (by decide), (fun i hi => by rw [fault_ok h6 h7] at hi; cases hi), fun _ => k⟩
theorem mk_spans {K : PySem.W.Frag} {A : Ad} {H : Hp} {tb l x dx : Addr} {cs : List Str} {rs : List (List Str)} {ts : List Addr} {ss : List TSp} {Q2 : VK} (hT : Tb A.C_Table H tb cs rs) (hrl : rs.length ≤ 48) (hL : SqL K H l (ts.map V.ref)) (hs : Tl (SqA K) H ts ss) (hl : ss.length ≤ 24) (ok : ∀ s ∈ ss, okSpan cs rs s = true)
    (hx : H x = none) (hdx : H dx = none) (hne : dx ≠ x) (k : ∀ H', Same H H' → Sps A.C_Spans A.C_Table K H' x tb cs rs ss → Q2 .non H') :
    spSpansQ K A (.ref x :: ([.ref tb, .ref l] ++ [])) (upd (upd H dx (.own x)) x (.ins A.C_Spans dx [])) Q2 E0 := by
  have s1 := same_new (o := .own x) hdx
  have hx1 : upd H dx (.own x) x = none := by rw [upd_ne hne.symm]; exact hx
  have s2 : Same H (upd (upd H dx (.own x)) x (.ins A.C_Spans dx [])) := s1.trans (same_new hx1)
  exact ⟨x, tb, l, dx, cs, rs, ts, ss, rfl, upd_same, hT.same s2, hrl, s2.seq hL, hs.imp (fun t s q => s2.sqa q), hl, ok, fun H' hk hS => k H' (fun b o e => hk b o (ne_of_none e hx) (s2 _ _ e)) hS⟩
/-- the rows with columns -/
def full (rs : List (List Str)) : List Nat := (List.range rs.length).filter fun i => decide (0 < (rs.getD i []).length)
/-- the rows without any -/
def empty (rs : List (List Str)) : List Nat := (List.range rs.length).filter fun i => decide ((rs.getD i []).length = 0)
end
end My
set_option maxRecDepth 100000
set_option maxHeartbeats 8000000
set_option exponentiation.threshold 10000
namespace My
open PySem L2
open C8 (pss_cut)
theorem full_lt {rs : List (List Str)} {n : Nat} (h : n ∈ full rs) : ∃ r, rs[n]? = some r ∧ 0 < r.length := by
  unfold full at h
  rw [List.mem_filter, List.mem_range, decide_eq_true_iff] at h
  obtain ⟨h1, h2⟩ := h
  rw [List.getD_eq_getElem?_getD, List.getElem?_eq_getElem h1] at h2
  exact ⟨rs[n], List.getElem?_eq_getElem h1, h2⟩
theorem canon_ne {cs r : List Str} (h : RowOk cs r) (h0 : 0 < r.length) : canon cs r ≠ [] := by
  obtain ⟨z, hz⟩ := List.exists_mem_of_ne_nil _ (List.length_pos_iff.mp h0)
  exact List.ne_nil_of_mem (mem_canon.mpr ⟨h.2 z hz, hz⟩)
theorem okSpan_of {cs : List Str} {rs : List (List Str)} {n : Nat} {l : Int} {m : Option Int} (hR : ∀ r ∈ rs, RowOk cs r) (hn : n ∈ full rs) (h0 : 0 ≤ l) (h1 : l ≤ 1000000) (hm : mostOk l m = true) : okSpan cs rs (((n : Nat) : Int), l, m) = true := by
  obtain ⟨r, hr, hp⟩ := full_lt hn
  have hlt := (List.getElem?_eq_some_iff.mp hr).1
  have := List.length_pos_iff.mpr (canon_ne (hR r (List.mem_of_getElem? hr)) hp)
  unfold okSpan hasTime areTimes
  show ((decide (0 ≤ (n : Int) ∧ (n : Int) < (rs.length : Int)) && decide (0 < (canon cs (rs.getD (n : Int).toNat [])).length)) && (decide (0 ≤ l ∧ l ≤ 1000000) && mostOk l m)) = true
  rw [Int.toNat_natCast, List.getD_eq_getElem?_getD, hr, decide_eq_true (show 0 ≤ (n : Int) ∧ (n : Int) < (rs.length : Int) by omega), decide_eq_true (show 0 ≤ l ∧ l ≤ 1000000 from ⟨h0, h1⟩), hm]
  show ((true && decide (0 < (canon cs r).length)) && (true && true)) = true
  rw [decide_eq_true this]; rfl
theorem nv_len (l : List Nat) : (nv l).length = l.length := List.length_map ..
theorem row_at {K : PySem.W.Frag} {H : Hp} {rts : List Addr} {rs : List (List Str)} (h : LsA K H rts rs) {i : Nat} (hi : i < rs.length) : ∃ t r, rts[i]? = some t ∧ rs[i]? = some r ∧ atI (rts.map V.ref) ((i : Nat) : Int) = some (V.ref t) ∧ SqA K H t (sv r) := by
  have hx : i < rts.length := by rw [h.len]; exact hi
  exact ⟨rts[i], rs[i], List.getElem?_eq_getElem hx, List.getElem?_eq_getElem hi, atR_of (List.getElem?_eq_getElem hx), h.at_ i _ _ (List.getElem?_eq_getElem hx) (List.getElem?_eq_getElem hi)⟩
theorem filt_T {f : Nat → Bool} {i : Nat} (h : f i = true) : nv ((List.range (i + 1)).filter f) = nv ((List.range i).filter f) ++ [V.int ((i : Nat) : Int)] := by
  unfold nv
  rw [List.range_succ, List.filter_append, List.map_append, List.filter_cons_of_pos (p := f) (a := i) (l := []) h]; rfl
theorem filt_F {f : Nat → Bool} {i : Nat} (h : f i = false) : nv ((List.range (i + 1)).filter f) = nv ((List.range i).filter f) := by
  unfold nv
  rw [List.range_succ, List.filter_append, List.map_append, List.filter_cons_of_neg (p := f) (a := i) (l := []) (by rw [h]; decide)]; simp
theorem filt_len {f : Nat → Bool} {i : Nat} (h : i ≤ 1000) : (nv ((List.range i).filter f)).length ≤ 1000000 := by
  have := List.length_filter_le f (List.range i)
  rw [List.length_range] at this
  rw [nv_len]; omega
theorem Yrs.le {ys : List Int} (h : Yrs ys) {f g : Nat} {a b : Int} (hfg : f ≤ g) (ha : ys[f]? = some a) (hb : ys[g]? = some b) : a ≤ b := by
  rcases Nat.lt_or_eq_of_le hfg with c | c
  · obtain ⟨hf, e1⟩ := List.getElem?_eq_some_iff.mp ha
    obtain ⟨hg, e2⟩ := List.getElem?_eq_some_iff.mp hb
    have := List.pairwise_iff_getElem.mp h.up f g hf hg c
    rw [e1, e2] at this; exact this
  · subst c; rw [ha] at hb; cases hb; exact Int.le_refl _
section
variable {P : Program} {w : World} {K : PySem.W.Frag} {mg : Str → Option Value} {base : Heap} {A : Ad}
def spTold (K : PySem.W.Frag) : Sp := fun vs H Q _ => ∃ o y r p ns rts rs cs, ∃ (ys ps : List Int) (c : Int) (wild : Bool), vs = [.ref o, .ref y, .ref r, .ref p, .int 12, .int c, .bl wild] ∧ SqL K H o (sv ns) ∧ SqL K H y (ivs ys) ∧ SqL K H r (rts.map V.ref) ∧ LsA K H rts rs ∧ SqL K H p (ps.map V.int) ∧ Pool ps ∧ ps.length = 60 ∧ 0 ≤ c ∧ c ≤ 6 ∧
  (∀ r ∈ rs, RowOk cs r) ∧ ns.Perm cs ∧ Yrs ys ∧ ys.length = ns.length ∧ ns.length ≤ 12 ∧ rs.length ≤ 48 ∧
  ∀ D ts ss H', Same H H' → H D = none → H' D = some (.lst (ts.map V.ref)) → Tl (SqT K) H' ts ss → ss.length ≤ 6 → (∀ s ∈ ss, okSpan cs rs s = true) → Q (.ref D) H'
theorem ok_told (T : Txt P K mg A) : FnOk P w K mg base CX0 3 A.a_law_told A.d_law_told ["order", "years", "rows", "pool", "start", "count", "wild"] (spTold K) := by
  have G_law_time := ok_ltime (P := P) (w := w) (base := base) T
  refine T.F_law_told.ok sc_law_told (fun vs H Q E h => ?_) (fun cdv A' outer s H vs Q E hr h => ?_)
  · obtain ⟨o, y, r, p, ns, rts, rs, cs, ys, ps, c, wild, rfl, _⟩ := h
    rfl
  · obtain ⟨o, y, r, p, ns, rts, rs, cs, ys, ps, c, wild, rfl, hO, hY, hR, hRs, hP, hPool, hpl, hc0, hc6, hRow, hpm, hYrs, hyl, hnl, hrl, k⟩ := h
    refine ⟨_, (pss_cons (ps_set (i := 7) sc_law_told.nd rfl (Or.inl rfl) (pe_lst pa_nil))
      (pss_cons (ps_setLc (i := 8) (own := [("i", 16)]) (g := gName 16) (tt := _) rfl sc_law_told.nd rfl rfl (sw_true rfl rfl rfl (by decide +kernel)) (pi_range1 (by rfl) T.n_range (pa_cons (pe_callB call_len_seq (by rfl) T.n_len (by decide +kernel) (pa_cons (pv 2) pa_nil)) pa_nil)) (blkOk_by (N := ["order", "years", "rows", "pool", "start", "count", "wild", "told", "full", "k", "draw", "number", "time", "least", "most", "wide", "i"]) (sc := defScope s_law_told) (by decide +kernel)) (fun _ _ _ _ _ => (pg_name (i := 16) sc_law_told.nd rfl (Or.inl rfl))) (fun _ _ _ _ _ => (pts_one (pt_cmpR op_gt (pe_callB (show CallR _ _ (rLen2 K) from call_len_seq) (by rfl) T.n_len (by decide +kernel) (pa_cons (pe_ix (show IxR _ (rIxL K) from ix_list) (pv 2) (pv 16) (fun _ _ => rfl)) pa_nil)) pe_int (nomark _)))) (fun _ _ _ _ _ => (pv 16)))
      (pss_cons (ps_if (pt_cmpR op_eq (pe_callB call_len_seq (by rfl) T.n_len (by decide +kernel) (pa_cons (pv 8) pa_nil)) pe_int (nomark _)) (pss_one (ps_ret (pv 7))) pss_nil)
      (pss_cons (ps_for PassesOwn.never rfl (pi_range1 (by rfl) T.n_range (pa_cons (pv 5) pa_nil)) (pg_name (i := 9) sc_law_told.nd rfl (Or.inl rfl))
        (pss_cons (ps_set (i := 10) sc_law_told.nd rfl (Or.inl rfl) (pe_callTy call_int1 (by rfl) T.n_int (by decide +kernel) (pa_cons (pe_ix ix_list (pv 3) (pe_op op_add (pv 4) (pv 9)) (fun _ _ => rfl)) pa_nil)))
      (pss_cons (ps_set (i := 11) sc_law_told.nd rfl (Or.inl rfl) (pe_ix ix_list (pv 8) (pe_op op_mod (pe_callTy call_int1 (by rfl) T.n_int (by decide +kernel) (pa_cons (pv 10) pa_nil)) (pe_callB call_len_seq (by rfl) T.n_len (by decide +kernel) (pa_cons (pv 8) pa_nil))) (fun _ _ => rfl)))
      (pss_cons (ps_set (i := 12) sc_law_told.nd rfl (Or.inl rfl) (pe_call G_law_time (hr.mono (by decide)) rfl T.mg_law_time T.F_law_time.kp T.b_law_time .nil pass0 (pa_cons (pv 0) (pa_cons (pv 1) (pa_cons (pe_ix ix_list (pv 2) (pv 11) (fun _ _ => rfl)) pa_nil)))))
      (pss_cons (ps_set (i := 13) sc_law_told.nd rfl (Or.inl rfl) (pe_callB (call_max2 rfl) (by rfl) T.n_max (by decide +kernel) (pa_cons pe_int (pa_cons (pe_op op_sub (pv 12) (pe_op op_mod (pe_callTy call_int1 (by rfl) T.n_int (by decide +kernel) (pa_cons (pe_op op_fdiv (pv 10) pe_int) pa_nil)) pe_int)) pa_nil))))
      (pss_cons (ps_set (i := 14) sc_law_told.nd rfl (Or.inl rfl) (pe_op op_add (pv 12) (pe_op op_mod (pe_callTy call_int1 (by rfl) T.n_int (by decide +kernel) (pa_cons (pe_op op_fdiv (pv 10) pe_int) pa_nil)) pe_int)))
      (pss_cons (ps_set (i := 15) sc_law_told.nd rfl (Or.inl rfl) (pe_op op_mod (pe_callTy call_int1 (by rfl) T.n_int (by decide +kernel) (pa_cons (pe_op op_fdiv (pv 10) pe_int) pa_nil)) pe_int))
      (pss_cut (ps_if (pt_cmpR op_eq (pv 15) pe_int (nomark _)) (pss_cons (ps_set (i := 13) sc_law_told.nd rfl (Or.inl rfl) (pe_op op_sub (pv 12) (pe_op op_mod (pe_callTy call_int1 (by rfl) T.n_int (by decide +kernel) (pa_cons (pe_op op_fdiv (pv 10) pe_int) pa_nil)) (pe_op op_add (pv 12) pe_int))))
      (pss_one (ps_set (i := 14) sc_law_told.nd rfl (Or.inl rfl) (pe_callB (call_min2 rfl) (by rfl) T.n_min (by decide +kernel) (pa_cons (pe_op op_pow pe_int pe_int) (pa_cons (pe_op op_add (pv 12) (pe_op op_mul (pe_callTy call_int1 (by rfl) T.n_int (by decide +kernel) (pa_cons (pe_op op_fdiv (pv 10) pe_int) pa_nil)) pe_int)) pa_nil)))))) pss_nil)
      (pss_cut (ps_if (pt_cmpR op_eq (pv 15) pe_int (nomark _)) (pss_cons (ps_set (i := 13) sc_law_told.nd rfl (Or.inl rfl) pe_int)
      (pss_one (ps_set (i := 14) sc_law_told.nd rfl (Or.inl rfl) (pe_callB (call_min2 rfl) (by rfl) T.n_min (by decide +kernel) (pa_cons (pe_op op_pow pe_int pe_int) (pa_cons (pe_op op_add (pv 12) (pe_callTy call_int1 (by rfl) T.n_int (by decide +kernel) (pa_cons (pe_op op_fdiv (pv 10) pe_int) pa_nil))) pa_nil)))))) pss_nil)
      (pss_cut (ps_if (PW.pt (pw_and (pt_val (pv 6)) (pw_and1 (pt_cmpR op_eq (pe_op op_mod (pe_callTy call_int1 (by rfl) T.n_int (by decide +kernel) (pa_cons (pe_op op_fdiv (pv 10) pe_int) pa_nil)) pe_int) pe_int (nomark _))))) (pss_cons (ps_set (i := 13) sc_law_told.nd rfl (Or.inl rfl) (pe_op op_add (pe_op op_add (pv 12) pe_int) (pe_op op_mod (pe_callTy call_int1 (by rfl) T.n_int (by decide +kernel) (pa_cons (pe_op op_fdiv (pv 10) pe_int) pa_nil)) pe_int)))
      (pss_one (ps_set (i := 14) sc_law_told.nd rfl (Or.inl rfl) (pe_op op_add (pv 13) (pe_op op_mod (pe_callTy call_int1 (by rfl) T.n_int (by decide +kernel) (pa_cons (pe_op op_fdiv (pv 10) pe_int) pa_nil)) pe_int))))) pss_nil)
      (pss_one (ps_if (pt_cmpR op_eq (pe_op op_mod (pe_callTy call_int1 (by rfl) T.n_int (by decide +kernel) (pa_cons (pe_op op_fdiv (pv 10) pe_int) pa_nil)) pe_int) pe_int (nomark _)) (pss_one (ps_expr (pe_bm PySem.F.plainAttrs_list PySem.F.slot_list_append PySem.F.type_list_append mt_append (pv 7) (pa_cons (pe_tup (pa_cons (pv 11) (pa_cons (pv 13) (pa_cons pe_non pa_nil)))) pa_nil)))) (pss_one (ps_expr (pe_bm PySem.F.plainAttrs_list PySem.F.slot_list_append PySem.F.type_list_append mt_append (pv 7) (pa_cons (pe_tup (pa_cons (pv 11) (pa_cons (pv 13) (pa_cons (pv 14) pa_nil)))) pa_nil))))))))))))))))
      (pss_one (ps_ret (pv 7))))))), ?_⟩
    refine ⟨by show 0 ≤ sizeLine; decide, fun D hD => ?_⟩
    have s0 := same_new (o := .lst []) hD
    have hD0 := upd_same (H := H) (a := D) (o := .lst [])
    generalize upd H D _ = H0 at s0 hD0 ⊢
    have e1F : (((rts.map V.ref).length : Nat) : Int).toNat = rs.length := by rw [List.length_map, hRs.len, Int.toNat_natCast]
    refine ⟨_, rfl, r, _, rfl, .inl (s0.seq hR), _, rfl, by rw [List.length_map, hRs.len]; omega, by rw [List.length_map, hRs.len]; omega, fun F hF => lc_range (n := (((rts.map V.ref).length : Nat) : Int).toNat) (PvS H0 F fun i => nv ((List.range i).filter (fun i => decide (0 < (rs.getD i []).length)))) (pv0 hF rfl) ?_ ?_⟩
    · rintro i H3 hi q
      rw [e1F] at hi
      obtain ⟨t, r1, et, er1, atr, ho⟩ := row_at hRs hi
      have hg : (rs.getD i []) = r1 := by rw [List.getD_eq_getElem?_getD, er1]; rfl
      have ei : ((0 : Int) + (i : Int)) = ((i : Nat) : Int) := by omega
      rw [ei]
      refine ⟨rfl, _, rfl, _, rfl, r, _, _, _, rfl, rfl, q.1.seq (s0.seq hR), atr, t, _, rfl, q.1.sqa (s0.sqa ho), _, _, rfl, rfl, _, rfl, ?_⟩
      by_cases hb : 0 < r1.length
      · exact itY (by rw [len_sv]; omega) ⟨_, rfl, q.push hF (filt_T (f := fun i => decide (0 < (rs.getD i []).length)) (by rw [hg]; exact decide_eq_true hb)) (filt_len (by omega))⟩
      · exact itN (by rw [len_sv]; omega) (q.skip (filt_F (f := fun i => decide (0 < (rs.getD i []).length)) (by rw [hg]; exact decide_eq_false hb)))
    · rintro H3 ⟨s3, h3⟩
      rw [e1F] at h3
      have h3 : H3 F = some (.lst (nv (full rs))) := h3
      have hDF : D ≠ F := ne_of_none hD0 hF
      have hD1 := s3 _ _ hD0
      have s1 := s0.trans s3
      refine ⟨_, rfl, F, _, rfl, .inl (SqL.of h3), rfl, _, rfl, ?_⟩
      rw [nv_len]
      by_cases h0 : full rs = []
      · refine ifT (iEq (by rw [h0]; rfl)) ⟨_, rfl, k D [] [] H3 s1 hD hD1 Tl.nil (by decide) (fun s h => nomatch h)⟩
      · have hpos : 0 < (full rs).length := List.length_pos_iff.mpr h0
        refine ifF (iNe (by omega)) ?_
        refine ⟨_, rfl, c, rfl, by omega, by omega, for_range (n := c.toNat) (fun i σ H4 => Same H H4 ∧ ∃ (ts : List Addr) (ss : List TSp) (u9 u10 u11 u12 u13 u14 u15 : Option V), σ = [some (.ref o), some (.ref y), some (.ref r), some (.ref p), some (.int 12), some (.int c), some (.bl wild), some (.ref D), some (.ref F), u9, u10, u11, u12, u13, u14, u15, none] ∧ H4 D = some (.lst (ts.map V.ref)) ∧ H4 F = some (.lst (nv (full rs))) ∧ Tl (SqT K) H4 ts ss ∧ ss.length = i ∧ ∀ s ∈ ss, okSpan cs rs s = true)
          ⟨s1, [], [], none, none, none, none, none, none, none, rfl, hD1, h3, Tl.nil, rfl, (fun s h => nomatch h)⟩ ?_ ?_⟩
        · rintro i σ H4 hi ⟨s4, ts, ss, u9, u10, u11, u12, u13, u14, u15, rfl, hD4, hF4, hT4, hss, hok⟩
          obtain ⟨v, hv, e⟩ := atI_ok (xs := ps) (j := (12 : Int) + (0 + (i : Int))) (by omega) (by omega)
          obtain ⟨v0, v1⟩ := hPool v hv
          have lF : ((nv (full rs)).length : Int) = ((full rs).length : Int) := by rw [nv_len]
          have m0 := Int.emod_nonneg v (show (((full rs).length : Nat) : Int) ≠ 0 by omega)
          have m1 := Int.emod_lt_of_pos v (show (0 : Int) < (((full rs).length : Nat) : Int) by omega)
          obtain ⟨j, hj⟩ := Int.eq_ofNat_of_zero_le m0
          have hjl : j < (full rs).length := by omega
          have hn := List.getElem_mem hjl
          have en : atI (nv (full rs)) ((j : Nat) : Int) = some (V.int (((full rs)[j] : Nat) : Int)) := atI_nat (by rw [List.getElem?_map, List.getElem?_eq_getElem hjl]; rfl)
          generalize (full rs)[j] = n at hn en
          obtain ⟨rr, hr2, hrp⟩ := full_lt hn
          obtain ⟨rb, rr', er, er2, atr, hrb⟩ := row_at hRs (List.getElem?_eq_some_iff.mp hr2).1
          rw [hr2] at er2; cases er2
          have hrow := hRow rr (List.mem_of_getElem? hr2)
          refine ⟨_, rfl, _, rfl, _, rfl, _, _, rfl, rfl, p, _, _, _, rfl, rfl, s4.seq hP, e, .inl ⟨_, rfl, ?_⟩⟩
          refine ⟨_, rfl, _, rfl, .inl ⟨_, rfl, _, rfl, F, _, rfl, .inl (SqL.of hF4), _, _, rfl, rfl, by rw [lF]; omega, F, _, _, _, rfl, rfl, SqL.of hF4, by rw [lF, hj]; exact en, ?_⟩⟩
          refine ⟨_, rfl, _, rfl, _, rfl, _, rfl, r, _, _, _, rfl, rfl, s4.seq hR, atr, o, y, rb, ns, rr, ys, rfl, s4.seq hO, s4.seq hY, s4.sqa hrb, by omega, by omega, plc_ne hpm (canon_ne hrow hrp), fun f g a b H5 hf5 hg5 ha5 hb5 s5 => ?_⟩
          have t0 : 0 ≤ b - a := by
            have hfg : f ≤ g := (plc_head_le hf5).2 g (List.mem_of_getLast? hg5)
            have := hYrs.le hfg ha5 hb5
            omega
          have t1 : b - a ≤ 990000 := by
            have h1 := hYrs.hi b (List.mem_of_getElem? hb5)
            have h2 := hYrs.lo a (List.mem_of_getElem? ha5)
            have : (ys.length : Int) ≤ 12 := by omega
            omega
          generalize b - a = tm at t0 t1
          have s6 := s4.trans s5
          have hD5 := s5 _ _ hD4
          have hF5 := s5 _ _ hF4
          have hT5 := hT4.imp fun t s q => s5.tup q
          clear hD4 hF4 hT4 s4
          have dd : ∀ q : Int, (0 : Int) < q → 0 ≤ v / q := fun q hq => Int.ediv_nonneg v0 (Int.le_of_lt hq)
          have mm : ∀ a q : Int, (0 : Int) < q → 0 ≤ a % q ∧ a % q < q := fun a q hq => ⟨Int.emod_nonneg _ (by omega), Int.emod_lt_of_pos _ hq⟩
          have a48 := mm (v / 48) 4 (by decide)
          have a192 := mm (v / 192) 4 (by decide)
          have d12 := dd 12 (by decide)
          have at1 := mm (v / 12) (tm + 1) (by omega)
          have d12u : v / 12 ≤ 2309 := by omega
          refine ⟨_, rfl, _, rfl, _, _, rfl, rfl, ⟨by decide, by decide⟩, .inl ⟨_, rfl, _, _, rfl, rfl, by show (0 : Int) < 4; decide, _, _, rfl, rfl, _, _, rfl, ?_⟩⟩
          refine ⟨_, rfl, _, rfl, _, _, rfl, rfl, ⟨by decide, by decide⟩, .inl ⟨_, rfl, _, _, rfl, rfl, by show (0 : Int) < 4; decide, _, _, rfl, rfl, ?_⟩⟩
          refine ⟨_, rfl, _, _, rfl, rfl, ⟨by decide, by decide⟩, .inl ⟨_, rfl, _, _, rfl, rfl, by show (0 : Int) < 4; decide, ?_⟩⟩
          have mid : ∀ l m : Int, l = (if tm - v / 48 % 4 > 0 then tm - v / 48 % 4 else 0) → m = tm + v / 192 % 4 → 0 ≤ l ∧ l ≤ m ∧ m ≤ 1000000 := fun l m hl hm => by
            subst hl; subst hm
            split <;> omega
          refine ⟨fun σ H6 => H5 = H6 ∧ ∃ l m : Int, σ = [some (.ref o), some (.ref y), some (.ref r), some (.ref p), some (.int 12), some (.int c), some (.bl wild), some (.ref D), some (.ref F), some (.int (0 + (i : Int))), some (.int v), some (.int ((n : Nat) : Int)), some (.int tm), some (.int l), some (.int m), some (.int (v / 6912 % 4)), none] ∧ 0 ≤ l ∧ l ≤ m ∧ m ≤ 1000000, ?_, ?_⟩
          · refine ⟨_, rfl, rfl, _, rfl, ite2 (fun hb => ?_) (fun hb => ⟨rfl, _, _, rfl, mid _ _ rfl rfl⟩)⟩
            refine ⟨_, rfl, _, rfl, _, _, rfl, rfl, ⟨by decide, by decide⟩, .inl ⟨_, rfl, _, rfl, _, _, rfl, rfl, _, _, rfl, rfl, by omega, _, _, rfl, rfl, ?_⟩⟩
            refine ⟨_, _, rfl, rfl, ⟨by decide, by decide, by decide⟩, _, rfl, _, rfl, _, _, rfl, rfl, ⟨by decide, by decide⟩, .inl ⟨_, rfl, _, _, rfl, rfl, .inr (by decide), _, _, rfl, rfl, _, _, rfl, ?_⟩⟩
            refine ⟨rfl, _, _, rfl, by omega, ?_, ?_⟩
            · show tm - v / 12 % (tm + 1) ≤ (if tm + v / 12 * 40 < 1000000 then tm + v / 12 * 40 else 1000000)
              split <;> omega
            · show (if tm + v / 12 * 40 < 1000000 then tm + v / 12 * 40 else 1000000) ≤ 1000000
              split <;> omega
          rintro σ H6 ⟨rfl, l, m, rfl, hl0, hlm, hm1⟩
          refine ⟨fun σ H6 => H5 = H6 ∧ ∃ l m : Int, σ = [some (.ref o), some (.ref y), some (.ref r), some (.ref p), some (.int 12), some (.int c), some (.bl wild), some (.ref D), some (.ref F), some (.int (0 + (i : Int))), some (.int v), some (.int ((n : Nat) : Int)), some (.int tm), some (.int l), some (.int m), some (.int (v / 6912 % 4)), none] ∧ 0 ≤ l ∧ l ≤ m ∧ m ≤ 1000000, ?_, ?_⟩
          · refine ⟨_, rfl, rfl, _, rfl, ite2 (fun hb => ?_) (fun hb => ⟨rfl, _, _, rfl, hl0, hlm, hm1⟩)⟩
            refine ⟨_, _, rfl, rfl, ⟨by decide, by decide, by decide⟩, _, rfl, _, rfl, _, _, rfl, rfl, ⟨by decide, by decide⟩, .inl ⟨_, rfl, _, _, rfl, rfl, _, _, rfl, ?_⟩⟩
            refine ⟨rfl, _, _, rfl, Int.le_refl _, ?_, ?_⟩
            · show 0 ≤ (if tm + v / 12 < 1000000 then tm + v / 12 else 1000000)
              split <;> omega
            · show (if tm + v / 12 < 1000000 then tm + v / 12 else 1000000) ≤ 1000000
              split <;> omega
          clear hl0 hlm hm1
          rintro σ H6 ⟨rfl, l, m, rfl, hl0, hlm, hm1⟩
          refine ⟨fun σ H6 => H5 = H6 ∧ ∃ l m : Int, σ = [some (.ref o), some (.ref y), some (.ref r), some (.ref p), some (.int 12), some (.int c), some (.bl wild), some (.ref D), some (.ref F), some (.int (0 + (i : Int))), some (.int v), some (.int ((n : Nat) : Int)), some (.int tm), some (.int l), some (.int m), some (.int (v / 6912 % 4)), none] ∧ 0 ≤ l ∧ l ≤ m ∧ m ≤ 1000000, ?_, ?_⟩
          · cases wild with
            | false => exact ⟨_, rfl, _, rfl, ifF rfl (ifF rfl ⟨rfl, _, _, rfl, hl0, hlm, hm1⟩)⟩
            | true =>
              refine ⟨_, rfl, _, rfl, ifT rfl ⟨_, rfl, _, _, rfl, rfl, ⟨by decide, by decide⟩, .inl ⟨_, rfl, _, _, rfl, rfl, by show (0 : Int) < 3; decide, rfl, _, rfl, ite2 (fun hb => ?_) (fun hb => ⟨rfl, _, _, rfl, hl0, hlm, hm1⟩)⟩⟩⟩
              refine ⟨_, rfl, _, _, rfl, rfl, _, rfl, _, _, rfl, rfl, ⟨by decide, by decide⟩, .inl ⟨_, rfl, _, _, rfl, rfl, by show (0 : Int) < 4; decide, _, _, rfl, rfl, ?_⟩⟩
              refine ⟨_, rfl, _, rfl, _, _, rfl, rfl, ⟨by decide, by decide⟩, .inl ⟨_, rfl, _, _, rfl, rfl, by show (0 : Int) < 4; decide, _, _, rfl, rfl, ?_⟩⟩
              exact ⟨rfl, _, _, rfl, by omega, by omega, by omega⟩
          clear hl0 hlm hm1
          rintro σ H6 ⟨rfl, l, m, rfl, hl0, hlm, hm1⟩
          refine ⟨_, rfl, _, _, rfl, rfl, ⟨by decide, by decide⟩, .inl ⟨_, rfl, _, _, rfl, rfl, by show (0 : Int) < 3; decide, rfl, _, rfl, ite2 (fun hb => ?_) (fun hb => ?_)⟩⟩
          · refine ⟨_, rfl, .inl ⟨rfl, _, SqL.of hD5⟩, _, rfl, _, rfl, by show 3 ≤ sizeLine; decide, fun t ht => ?_⟩
            have s7 := same_new (o := .tup [V.int ((n : Nat) : Int), .int l, .non]) ht
            refine ⟨D, _, _, rfl, rfl, s7 _ _ hD5, small_int (by rw [List.length_map, hT5.len]; omega), ?_⟩
            have hDt : t ≠ D := (ne_of_none hD5 ht).symm
            refine ⟨fun x u e => by rw [upd_ne (ne_of_none e hD)]; exact s7 _ _ (s6 _ _ e), ts ++ [t], ss ++ [(((n : Nat) : Int), l, none)], _, _, _, _, _, _, _, rfl, ?_, ?_, ?_, by rw [List.length_append, hss]; rfl, ?_⟩
            · rw [List.map_append]; exact upd_same
            · rw [upd_ne hDF.symm]; exact s7 _ _ hF5
            · exact ((hT5.imp fun t s q => s7.tup q).app (Tl.one (SqT.of upd_same))).imp fun t s q => sqt_updL q (s7 _ _ hD5)
            · intro s hs
              rcases List.mem_append.mp hs with q | q
              · exact hok s q
              · rw [List.mem_singleton.mp q]; exact okSpan_of hRow hn hl0 (by omega) rfl
          · refine ⟨_, rfl, .inl ⟨rfl, _, SqL.of hD5⟩, _, rfl, _, rfl, _, rfl, by show 3 ≤ sizeLine; decide, fun t ht => ?_⟩
            have s7 := same_new (o := .tup [V.int ((n : Nat) : Int), .int l, .int m]) ht
            refine ⟨D, _, _, rfl, rfl, s7 _ _ hD5, small_int (by rw [List.length_map, hT5.len]; omega), ?_⟩
            have hDt : t ≠ D := (ne_of_none hD5 ht).symm
            refine ⟨fun x u e => by rw [upd_ne (ne_of_none e hD)]; exact s7 _ _ (s6 _ _ e), ts ++ [t], ss ++ [(((n : Nat) : Int), l, some m)], _, _, _, _, _, _, _, rfl, ?_, ?_, ?_, by rw [List.length_append, hss]; rfl, ?_⟩
            · rw [List.map_append]; exact upd_same
            · rw [upd_ne hDF.symm]; exact s7 _ _ hF5
            · exact ((hT5.imp fun t s q => s7.tup q).app (Tl.one (SqT.of upd_same))).imp fun t s q => sqt_updL q (s7 _ _ hD5)
            · intro s hs
              rcases List.mem_append.mp hs with q | q
              · exact hok s q
              · rw [List.mem_singleton.mp q]; exact okSpan_of hRow hn hl0 (by omega) (decide_eq_true ⟨hlm, hm1⟩)
        · rintro σ H4 ⟨s4, ts, ss, u9, u10, u11, u12, u13, u14, u15, rfl, hD4, hF4, hT4, hss, hok⟩
          exact ⟨_, rfl, k D ts ss H4 s4 hD hD4 hT4 (by omega) hok⟩
end
end My
set_option maxRecDepth 100000
set_option maxHeartbeats 8000000
set_option exponentiation.threshold 10000
namespace My
open PySem L2
open C8 (pss_cut)
section
variable {P : Program} {w : World} {K : PySem.W.Frag} {mg : Str → Option Value} {base : Heap} {A : Ad}
def spFree (K : PySem.W.Frag) : Sp := fun vs H Q _ => ∃ r p rts rs cs, ∃ (ps : List Int) (c : Int), vs = [.ref r, .ref p, .int 25, .int c] ∧ SqL K H r (rts.map V.ref) ∧ LsA K H rts rs ∧ SqL K H p (ps.map V.int) ∧ Pool ps ∧ ps.length = 60 ∧ 0 ≤ c ∧ c ≤ 6 ∧
  (∀ r ∈ rs, RowOk cs r) ∧ rs.length ≤ 48 ∧
  ∀ D ts ss H', Same H H' → H D = none → H' D = some (.lst (ts.map V.ref)) → Tl (SqT K) H' ts ss → ss.length ≤ 6 → (∀ s ∈ ss, okSpan cs rs s = true) → Q (.ref D) H'
theorem ok_free (T : Txt P K mg A) : FnOk P w K mg base CX0 1 A.a_law_free_spans A.d_law_free_spans ["rows", "pool", "start", "count"] (spFree K) := by
  refine T.F_law_free_spans.ok sc_law_free_spans (fun vs H Q E h => ?_) (fun cdv A' outer s H vs Q E hr h => ?_)
  · obtain ⟨r, p, rts, rs, cs, ps, c, rfl, _⟩ := h
    rfl
  · obtain ⟨r, p, rts, rs, cs, ps, c, rfl, hR, hRs, hP, hPool, hpl, hc0, hc6, hRow, hrl, k⟩ := h
    refine ⟨_, (pss_cons (ps_set (i := 4) sc_law_free_spans.nd rfl (Or.inl rfl) (pe_lst pa_nil))
      (pss_cons (ps_setLc (i := 5) (own := [("i", 11)]) (g := gName 11) (tt := _) rfl sc_law_free_spans.nd rfl rfl (sw_true rfl rfl rfl (by decide +kernel)) (pi_range1 (by rfl) T.n_range (pa_cons (pe_callB call_len_seq (by rfl) T.n_len (by decide +kernel) (pa_cons (pv 0) pa_nil)) pa_nil)) (blkOk_by (N := ["rows", "pool", "start", "count", "told", "full", "k", "one", "other", "least", "most", "i"]) (sc := defScope s_law_free_spans) (by decide +kernel)) (fun _ _ _ _ _ => (pg_name (i := 11) sc_law_free_spans.nd rfl (Or.inl rfl))) (fun _ _ _ _ _ => (pts_one (pt_cmpR op_gt (pe_callB (show CallR _ _ (rLen2 K) from call_len_seq) (by rfl) T.n_len (by decide +kernel) (pa_cons (pe_ix (show IxR _ (rIxL K) from ix_list) (pv 0) (pv 11) (fun _ _ => rfl)) pa_nil)) pe_int (nomark _)))) (fun _ _ _ _ _ => (pv 11)))
      (pss_cons (ps_for PassesOwn.never rfl (pi_range1 (by rfl) T.n_range (pa_cons (pv 3) pa_nil)) (pg_name (i := 6) sc_law_free_spans.nd rfl (Or.inl rfl))
        (pss_cons (ps_set (i := 7) sc_law_free_spans.nd rfl (Or.inl rfl) (pe_callTy call_int1 (by rfl) T.n_int (by decide +kernel) (pa_cons (pe_ix ix_list (pv 1) (pe_op op_add (pv 2) (pe_op op_mul pe_int (pv 6))) (fun _ _ => rfl)) pa_nil)))
      (pss_cons (ps_set (i := 8) sc_law_free_spans.nd rfl (Or.inl rfl) (pe_callTy call_int1 (by rfl) T.n_int (by decide +kernel) (pa_cons (pe_ix ix_list (pv 1) (pe_op op_add (pe_op op_add (pv 2) (pe_op op_mul pe_int (pv 6))) pe_int) (fun _ _ => rfl)) pa_nil)))
      (pss_cons (ps_set (i := 9) sc_law_free_spans.nd rfl (Or.inl rfl) (pe_op op_mod (pe_callTy call_int1 (by rfl) T.n_int (by decide +kernel) (pa_cons (pe_op op_fdiv (pv 7) pe_int) pa_nil)) pe_int))
      (pss_cons (ps_set (i := 10) sc_law_free_spans.nd rfl (Or.inl rfl) pe_non)
      (pss_cut (ps_if (pt_cmpR op_gt (pe_op op_mod (pe_callTy call_int1 (by rfl) T.n_int (by decide +kernel) (pa_cons (pv 8) pa_nil)) pe_int) pe_int (nomark _)) (pss_one (ps_set (i := 10) sc_law_free_spans.nd rfl (Or.inl rfl) (pe_op op_add (pv 9) (pe_op op_mod (pe_callTy call_int1 (by rfl) T.n_int (by decide +kernel) (pa_cons (pe_op op_fdiv (pv 8) pe_int) pa_nil)) pe_int)))) pss_nil)
      (pss_one (ps_if (pt_cmpR op_gt (pe_callB call_len_seq (by rfl) T.n_len (by decide +kernel) (pa_cons (pv 5) pa_nil)) pe_int (nomark _)) (pss_one (ps_expr (pe_bm PySem.F.plainAttrs_list PySem.F.slot_list_append PySem.F.type_list_append mt_append (pv 4) (pa_cons (pe_tup (pa_cons (pe_ix ix_list (pv 5) (pe_op op_mod (pe_callTy call_int1 (by rfl) T.n_int (by decide +kernel) (pa_cons (pv 7) pa_nil)) (pe_callB call_len_seq (by rfl) T.n_len (by decide +kernel) (pa_cons (pv 5) pa_nil))) (fun _ _ => rfl)) (pa_cons (pv 9) (pa_cons (pv 10) pa_nil)))) pa_nil)))) pss_nil))))))))
      (pss_one (ps_ret (pv 4)))))), ?_⟩
    refine ⟨by show 0 ≤ sizeLine; decide, fun D hD => ?_⟩
    have s0 := same_new (o := .lst []) hD
    have hD0 := upd_same (H := H) (a := D) (o := .lst [])
    generalize upd H D _ = H0 at s0 hD0 ⊢
    have e1F : (((rts.map V.ref).length : Nat) : Int).toNat = rs.length := by rw [List.length_map, hRs.len, Int.toNat_natCast]
    refine ⟨_, rfl, r, _, rfl, .inl (s0.seq hR), _, rfl, by rw [List.length_map, hRs.len]; omega, by rw [List.length_map, hRs.len]; omega, fun F hF => lc_range (n := (((rts.map V.ref).length : Nat) : Int).toNat) (PvS H0 F fun i => nv ((List.range i).filter (fun i => decide (0 < (rs.getD i []).length)))) (pv0 hF rfl) ?_ ?_⟩
    · rintro i H3 hi q
      rw [e1F] at hi
      obtain ⟨t, r1, et, er1, atr, ho⟩ := row_at hRs hi
      have hg : (rs.getD i []) = r1 := by rw [List.getD_eq_getElem?_getD, er1]; rfl
      have ei : ((0 : Int) + (i : Int)) = ((i : Nat) : Int) := by omega
      rw [ei]
      refine ⟨rfl, _, rfl, _, rfl, r, _, _, _, rfl, rfl, q.1.seq (s0.seq hR), atr, t, _, rfl, q.1.sqa (s0.sqa ho), _, _, rfl, rfl, _, rfl, ?_⟩
      by_cases hb : 0 < r1.length
      · exact itY (by rw [len_sv]; omega) ⟨_, rfl, q.push hF (filt_T (f := fun i => decide (0 < (rs.getD i []).length)) (by rw [hg]; exact decide_eq_true hb)) (filt_len (by omega))⟩
      · exact itN (by rw [len_sv]; omega) (q.skip (filt_F (f := fun i => decide (0 < (rs.getD i []).length)) (by rw [hg]; exact decide_eq_false hb)))
    · rintro H3 ⟨s3, h3⟩
      rw [e1F] at h3
      have h3 : H3 F = some (.lst (nv (full rs))) := h3
      have hDF : D ≠ F := ne_of_none hD0 hF
      have hD1 := s3 _ _ hD0
      have s1 := s0.trans s3
      refine ⟨_, rfl, c, rfl, by omega, by omega, for_range (n := c.toNat) (fun i σ H4 => Same H H4 ∧ ∃ (ts : List Addr) (ss : List TSp) (u6 u7 u8 u9 u10 : Option V), σ = [some (.ref r), some (.ref p), some (.int 25), some (.int c), some (.ref D), some (.ref F), u6, u7, u8, u9, u10, none] ∧ H4 D = some (.lst (ts.map V.ref)) ∧ H4 F = some (.lst (nv (full rs))) ∧ Tl (SqT K) H4 ts ss ∧ ss.length ≤ i ∧ ∀ s ∈ ss, okSpan cs rs s = true)
          ⟨s1, [], [], none, none, none, none, none, rfl, hD1, h3, Tl.nil, Nat.le_refl _, (fun s h => nomatch h)⟩ ?_ ?_⟩
      · rintro i σ H4 hi ⟨s4, ts, ss, u6, u7, u8, u9, u10, rfl, hD4, hF4, hT4, hss, hok⟩
        obtain ⟨v, hv, e⟩ := atI_ok (xs := ps) (j := (25 : Int) + 2 * (0 + (i : Int))) (by omega) (by omega)
        obtain ⟨v2, hv2, e2⟩ := atI_ok (xs := ps) (j := (25 : Int) + 2 * (0 + (i : Int)) + 1) (by omega) (by omega)
        obtain ⟨v0, v1⟩ := hPool v hv
        obtain ⟨w0, w1⟩ := hPool v2 hv2
        have mm : ∀ a q : Int, (0 : Int) < q → 0 ≤ a % q ∧ a % q < q := fun a q hq => ⟨Int.emod_nonneg _ (by omega), Int.emod_lt_of_pos _ hq⟩
        have a12 := mm (v / 12) 2001 (by decide)
        have a3 := mm (v2 / 3) 2001 (by decide)
        refine ⟨_, rfl, _, rfl, _, rfl, _, _, rfl, rfl, .inl (by decide), _, _, rfl, rfl, p, _, _, _, rfl, rfl, s4.seq hP, e, .inl ⟨_, rfl, ?_⟩⟩
        refine ⟨_, rfl, _, rfl, _, rfl, _, _, rfl, rfl, .inl (by decide), _, _, rfl, rfl, _, _, rfl, rfl, p, _, _, _, rfl, rfl, s4.seq hP, e2, .inl ⟨_, rfl, ?_⟩⟩
        refine ⟨_, rfl, _, _, rfl, rfl, ⟨by decide, by decide⟩, .inl ⟨_, rfl, _, _, rfl, rfl, by show (0 : Int) < 2001; decide, ?_⟩⟩
        refine ⟨fun σ H6 => H4 = H6 ∧ ∃ m : Option Int, σ = [some (.ref r), some (.ref p), some (.int 25), some (.int c), some (.ref D), some (.ref F), some (.int (0 + (i : Int))), some (.int v), some (.int v2), some (.int (v / 12 % 2001)), some (optI m), none] ∧ mostOk (v / 12 % 2001) m = true, ?_, ?_⟩
        · refine ⟨_, rfl, .inl ⟨_, rfl, _, _, rfl, rfl, by show (0 : Int) < 3; decide, _, _, rfl, rfl, _, rfl, ite2 (fun hb => ?_) (fun hb => ⟨rfl, none, rfl, rfl⟩)⟩⟩
          refine ⟨_, rfl, _, rfl, _, _, rfl, rfl, ⟨by decide, by decide⟩, .inl ⟨_, rfl, _, _, rfl, rfl, by show (0 : Int) < 2001; decide, _, _, rfl, rfl, ?_⟩⟩
          exact ⟨rfl, some _, rfl, decide_eq_true (by omega)⟩
        rintro σ H6 ⟨rfl, m, rfl, hm⟩
        refine ⟨_, rfl, F, _, rfl, .inl (SqL.of hF4), _, _, rfl, rfl, _, rfl, ?_⟩
        by_cases h0 : 0 < (full rs).length
        · refine itY (by rw [nv_len]; omega) ?_
          have lF : ((nv (full rs)).length : Int) = ((full rs).length : Int) := by rw [nv_len]
          have m0 := Int.emod_nonneg v (show (((full rs).length : Nat) : Int) ≠ 0 by omega)
          have m1 := Int.emod_lt_of_pos v (show (0 : Int) < (((full rs).length : Nat) : Int) by omega)
          obtain ⟨j, hj⟩ := Int.eq_ofNat_of_zero_le m0
          have hjl : j < (full rs).length := by omega
          have hn := List.getElem_mem hjl
          have en : atI (nv (full rs)) ((j : Nat) : Int) = some (V.int (((full rs)[j] : Nat) : Int)) := atI_nat (by rw [List.getElem?_map, List.getElem?_eq_getElem hjl]; rfl)
          generalize (full rs)[j] = n at hn en
          refine ⟨_, rfl, .inl ⟨rfl, _, SqL.of hD4⟩, _, rfl, _, rfl, .inl ⟨_, rfl, _, rfl, F, _, rfl, .inl (SqL.of hF4), _, _, rfl, rfl, by rw [lF]; omega, F, _, _, _, rfl, rfl, SqL.of hF4, by rw [lF, hj]; exact en, _, rfl, _, rfl, by show 3 ≤ sizeLine; decide, fun t ht => ?_⟩⟩
          have s7 := same_new (o := .tup [V.int ((n : Nat) : Int), .int (v / 12 % 2001), optI m]) ht
          refine ⟨D, _, _, rfl, rfl, s7 _ _ hD4, small_int (by rw [List.length_map, hT4.len]; omega), ?_⟩
          have hDt : t ≠ D := (ne_of_none hD4 ht).symm
          refine ⟨fun x u e => by rw [upd_ne (ne_of_none e hD)]; exact s7 _ _ (s4 _ _ e), ts ++ [t], ss ++ [(((n : Nat) : Int), v / 12 % 2001, m)], _, _, _, _, _, rfl, ?_, ?_, ?_, by rw [List.length_append]; exact Nat.succ_le_succ hss, ?_⟩
          · rw [List.map_append]; exact upd_same
          · rw [upd_ne hDF.symm]; exact s7 _ _ hF4
          · exact ((hT4.imp fun t s q => s7.tup q).app (Tl.one (SqT.of upd_same))).imp fun t s q => sqt_updL q (s7 _ _ hD4)
          · intro s hs
            rcases List.mem_append.mp hs with q | q
            · exact hok s q
            · rw [List.mem_singleton.mp q]; exact okSpan_of hRow hn (by omega) (by omega) hm
        · exact itN (by rw [nv_len]; omega) ⟨s4, ts, ss, _, _, _, _, _, rfl, hD4, hF4, hT4, by omega, hok⟩
      · rintro σ H4 ⟨s4, ts, ss, u6, u7, u8, u9, u10, rfl, hD4, hF4, hT4, hss, hok⟩
        exact ⟨_, rfl, k D ts ss H4 s4 hD hD4 hT4 (by omega) hok⟩
end
end My
set_option maxRecDepth 100000
set_option maxHeartbeats 8000000
set_option exponentiation.threshold 10000
namespace My
open PySem L2
/-- a list of at most n names -/
def GLn (H : Hp) (a : Addr) (n : Nat) : Prop := ∃ ys : List Str, H a = some (.lst (sv ys)) ∧ (∀ y ∈ ys, Good y) ∧ ys.length ≤ n
theorem GLn.same {H H' : Hp} {a : Addr} {n : Nat} (h : GLn H a n) (s : Same H H') : GLn H' a n := let ⟨ys, e, g, l⟩ := h; ⟨ys, s _ _ e, g, l⟩
theorem GLn.mono {H : Hp} {a : Addr} {n m : Nat} (h : GLn H a n) (l : n ≤ m) : GLn H a m := let ⟨ys, e, g, k⟩ := h; ⟨ys, e, g, Nat.le_trans k l⟩
theorem catO {H : Hp} {a b : Addr} {xs ys : List V} {Q : VK} (ha : H a = some (.lst xs)) (hb : H b = some (.lst ys)) (hl : xs.length + ys.length ≤ 1000000) (h : ∀ c H', Same H H' → H c = none → H' c = some (.lst (xs ++ ys)) → Q (.ref c) H') : rCat (.ref a) (.ref b) H Q :=
  ⟨a, b, xs, ys, rfl, rfl, ha, hb, Nat.le_trans hl (by decide), fun t ht => h t _ (same_new ht) ht upd_same⟩
theorem catG {H : Hp} {a b : Addr} {n m : Nat} {Q : VK} (ha : GLn H a n) (hb : GLn H b m) (hl : n + m ≤ 1000) (h : ∀ c H', Same H H' → GLn H' c (n + m) → Q (.ref c) H') : rCat (.ref a) (.ref b) H Q := by
  obtain ⟨xs, ea, ga, la⟩ := ha
  obtain ⟨ys, eb, gb, lb⟩ := hb
  refine catO ea eb (by rw [len_sv, len_sv]; omega) fun c H' s _ hc => h c H' s ⟨xs ++ ys, by rw [hc, sv_app], fun y hy => (List.mem_append.mp hy).elim (ga y) (gb y), by rw [List.length_append]; omega⟩
theorem slG {K : PySem.W.Frag} {H : Hp} {a : Addr} {n : Nat} {lo hi : Option Int} {Q : VK} (ha : GLn H a n) (h : ∀ c H', Same H H' → GLn H' c n → Q (.ref c) H') : rSlL K (.ref a) lo hi H Q := by
  obtain ⟨xs, ea, ga, la⟩ := ha
  refine slO (SqL.of ea) fun c H' s _ hc => ?_
  obtain ⟨ys, e, sb⟩ := cut_sv xs lo hi
  rw [e] at hc
  exact h c H' s ⟨ys, hc, fun y hy => ga y (sb.subset hy), Nat.le_trans sb.length_le la⟩
theorem good_stranger : Good "stranger" := okName_iff.mp (by decide +kernel)
/-- a list of at most n whole numbers -/
def GI (H : Hp) (a : Addr) (n : Nat) : Prop := ∃ ys : List Int, H a = some (.lst (ivs ys)) ∧ ys.length ≤ n
theorem GI.same {H H' : Hp} {a : Addr} {n : Nat} (h : GI H a n) (s : Same H H') : GI H' a n := let ⟨ys, e, l⟩ := h; ⟨ys, s _ _ e, l⟩
theorem GI.mono {H : Hp} {a : Addr} {n m : Nat} (h : GI H a n) (l : n ≤ m) : GI H a m := let ⟨ys, e, k⟩ := h; ⟨ys, e, Nat.le_trans k l⟩
theorem ivs_len (l : List Int) : (ivs l).length = l.length := List.length_map ..
theorem catI {H : Hp} {a b : Addr} {n m : Nat} {Q : VK} (ha : GI H a n) (hb : GI H b m) (hl : n + m ≤ 1000) (h : ∀ c H', Same H H' → GI H' c (n + m) → Q (.ref c) H') : rCat (.ref a) (.ref b) H Q := by
  obtain ⟨xs, ea, la⟩ := ha
  obtain ⟨ys, eb, lb⟩ := hb
  refine catO ea eb (by rw [ivs_len, ivs_len]; omega) fun c H' s _ hc => h c H' s ⟨xs ++ ys, by rw [hc]; show some (HO.lst (xs.map V.int ++ ys.map V.int)) = some (HO.lst ((xs ++ ys).map V.int)); rw [List.map_append], by rw [List.length_append]; omega⟩
theorem slI {K : PySem.W.Frag} {H : Hp} {a : Addr} {n : Nat} {lo hi : Option Int} {Q : VK} (ha : GI H a n) (h : ∀ c H', Same H H' → GI H' c n → Q (.ref c) H') : rSlL K (.ref a) lo hi H Q := by
  obtain ⟨xs, ea, la⟩ := ha
  refine slO (SqL.of ea) fun c H' s _ hc => ?_
  refine h c H' s ⟨(xs.drop (HT.sIx (ivs xs).length 0 lo)).take (HT.sIx (ivs xs).length (ivs xs).length hi - HT.sIx (ivs xs).length 0 lo), ?_, ?_⟩
  · rw [hc]
    show some (HO.lst (cutV (ivs xs) lo hi)) = _
    unfold cutV
    show some (HO.lst (((xs.map V.int).drop _).take _)) = some (HO.lst (((xs.drop _).take _).map V.int))
    rw [List.map_take, List.map_drop]
  · rw [List.length_take, List.length_drop]; omega
theorem atI_any {xs : List V} {j : Int} (h0 : 0 ≤ j) (h1 : j < (xs.length : Int)) : ∃ v ∈ xs, atI xs j = some v := by
  obtain ⟨n, rfl⟩ := Int.eq_ofNat_of_zero_le h0
  have hn : n < xs.length := by omega
  exact ⟨xs[n], List.getElem_mem hn, atI_nat (List.getElem?_eq_getElem hn)⟩
theorem map_push {f : Int → Int} {xs : List Int} {i : Nat} {x : Int} (h : xs[i]? = some x) : ivs ((xs.take (i + 1)).map f) = ivs ((xs.take i).map f) ++ [V.int (f x)] := by
  rw [take_succ h, List.map_append]; exact List.map_append
theorem ivs_get {l : List Int} {i : Nat} {x : V} (h : (ivs l)[i]? = some x) : ∃ v, l[i]? = some v ∧ x = .int v := by
  rw [List.getElem?_map] at h
  cases e : l[i]? with
  | none => rw [e] at h; cases h
  | some v => rw [e] at h; exact ⟨v, rfl, (Option.some.inj h).symm⟩
section
variable {P : Program} {w : World} {K : PySem.W.Frag} {mg : Str → Option Value} {base : Heap} {A : Ad}
def spOYears (K : PySem.W.Frag) : Sp := fun vs H Q _ => ∃ y p, ∃ ys ps : List Int, vs = [.ref y, .ref p] ∧ H y = some (.lst (ivs ys)) ∧ ys.length ≤ 12 ∧ SqL K H p (ps.map V.int) ∧ ps.length = 60 ∧ ∀ a H', Same H H' → GI H' a 40 → Q (.ref a) H'
theorem ok_oyears (T : Txt P K mg A) : FnOk P w K mg base CX0 1 A.a_law_other_years A.d_law_other_years ["years", "pool"] (spOYears K) := by
  refine T.F_law_other_years.ok sc_law_other_years (fun vs H Q E h => ?_) (fun cdv A' outer s H vs Q E hr h => ?_)
  · obtain ⟨y, p, ys, ps, rfl, _⟩ := h
    rfl
  · obtain ⟨y, p, ys, ps, rfl, hY, hyl, hP, hpl, k⟩ := h
    refine ⟨_, (pss_cons (ps_set (i := 2) sc_law_other_years.nd rfl (Or.inl rfl) (pe_op op_mod (pe_callTy call_int1 (by rfl) T.n_int (by decide +kernel) (pa_cons (pe_ix ix_list (pv 1) pe_int (fun _ _ => rfl)) pa_nil)) pe_int))
      (pss_cons (ps_setLc (i := 3) (own := [("k", 6)]) (g := gName 6) (tt := tYes) rfl sc_law_other_years.nd rfl rfl (sw_true rfl rfl rfl (by decide +kernel)) (pi_range1 (by rfl) T.n_range (pa_cons (pe_callB call_len_seq (by rfl) T.n_len (by decide +kernel) (pa_cons (pv 0) pa_nil)) pa_nil)) (blkOk_by (N := ["years", "pool", "word", "free", "at", "change", "k", "year"]) (sc := defScope s_law_other_years) (by decide +kernel)) (fun _ _ _ _ _ => (pg_name (i := 6) sc_law_other_years.nd rfl (Or.inl rfl))) (fun _ _ _ _ _ => pts_nil) (fun _ _ _ _ _ => (pe_op op_sub (pe_op op_mod (pe_callTy call_int1 (by rfl) T.n_int (by decide +kernel) (pa_cons (pe_ix (show IxR _ (rIxL K) from ix_list) (pv 1) (pe_op op_add pe_int (pv 6)) (fun _ _ => rfl)) pa_nil)) pe_int) pe_int)))
      (pss_cons (ps_set (i := 4) sc_law_other_years.nd rfl (Or.inl rfl) (pe_op op_mod (pe_callTy call_int1 (by rfl) T.n_int (by decide +kernel) (pa_cons (pe_ix ix_list (pv 1) pe_int (fun _ _ => rfl)) pa_nil)) (pe_op op_add (pe_callB call_len_seq (by rfl) T.n_len (by decide +kernel) (pa_cons (pv 0) pa_nil)) pe_int)))
      (pss_cons (ps_if (pt_cmpR op_eq (pv 2) pe_int (nomark _)) (pss_one (ps_ret (pe_ix ix_list (pe_lst (pa_cons (pv 3) (pa_cons (pe_slice sl_list (pv 3) po_none (po_some (pv 4))) (pa_cons (pe_op op_cat (pv 3) (pe_lst (pa_cons pe_int pa_nil))) (pa_cons (pe_op op_cat (pv 3) (pe_lst (pa_cons (pe_un un_neg pe_int) (pa_cons pe_int pa_nil)))) pa_nil))))) (pe_op op_mod (pe_callTy call_int1 (by rfl) T.n_int (by decide +kernel) (pa_cons (pe_ix ix_list (pv 1) pe_int (fun _ _ => rfl)) pa_nil)) pe_int) (fun _ _ => rfl)))) pss_nil)
      (pss_cons (ps_if (pt_cmpR op_eq (pv 2) pe_int (nomark _)) (pss_one (ps_ret (pe_ix ix_list (pe_lst (pa_cons (pe_callB cr_sortedI (by rfl) T.n_sorted (by decide +kernel) (pa_cons (pv 3) pa_nil)) (pa_cons (pe_slice sl_list (pe_callB cr_sortedI (by rfl) T.n_sorted (by decide +kernel) (pa_cons (pv 3) pa_nil)) po_none (po_some (pv 4))) (pa_cons (pe_op op_cat (pe_callB cr_sortedI (by rfl) T.n_sorted (by decide +kernel) (pa_cons (pv 3) pa_nil)) (pe_lst (pa_cons (pe_un un_neg pe_int) pa_nil))) pa_nil)))) (pe_op op_mod (pe_callTy call_int1 (by rfl) T.n_int (by decide +kernel) (pa_cons (pe_ix ix_list (pv 1) pe_int (fun _ _ => rfl)) pa_nil)) pe_int) (fun _ _ => rfl)))) pss_nil)
      (pss_cons (ps_set (i := 5) sc_law_other_years.nd rfl (Or.inr rfl) (pe_op op_add pe_int (pe_op op_mod (pe_callTy call_int1 (by rfl) T.n_int (by decide +kernel) (pa_cons (pe_ix ix_list (pv 1) pe_int (fun _ _ => rfl)) pa_nil)) pe_int)))
      (pss_cons (ps_if (pt_cmpR op_eq (pv 2) pe_int (nomark _)) (pss_one (ps_ret (pe_op op_cat (pe_slice sl_list (pv 0) po_none (po_some (pv 4))) (pe_slice sl_list (pv 0) (po_some (pe_op op_add (pv 4) pe_int)) po_none)))) pss_nil)
      (pss_cons (ps_if (pt_cmpR op_eq (pv 2) pe_int (nomark _)) (pss_one (ps_ret (pe_op op_cat (pv 0) (pe_lc (own := [("year", 7)]) (g := gName 7) (tt := tYes) rfl sc_law_other_years.nd (pi_list (pe_slice sl_list (pv 0) (po_some (pe_un un_neg pe_int)) po_none)) (blkOk_by (N := ["years", "pool", "word", "free", "at", "change", "k", "year"]) (sc := defScope s_law_other_years) (by decide +kernel)) (fun _ _ _ _ _ => (pg_name (i := 7) sc_law_other_years.nd rfl (Or.inl rfl))) (fun _ _ _ _ _ => pts_nil) (fun _ _ _ _ _ => (pe_op op_add (pv 7) (pv 5))))))) pss_nil)
      (pss_cons (ps_if (pt_cmpR op_eq (pv 2) pe_int (nomark _)) (pss_one (ps_ret (pe_op op_cat (pe_op op_cat (pe_slice sl_list (pv 0) po_none (po_some (pv 4))) (pe_lc (own := [("year", 7)]) (g := gName 7) (tt := tYes) rfl sc_law_other_years.nd (pi_list (pe_slice sl_list (pv 0) (po_some (pv 4)) (po_some (pe_op op_add (pv 4) pe_int)))) (blkOk_by (N := ["years", "pool", "word", "free", "at", "change", "k", "year"]) (sc := defScope s_law_other_years) (by decide +kernel)) (fun _ _ _ _ _ => (pg_name (i := 7) sc_law_other_years.nd rfl (Or.inl rfl))) (fun _ _ _ _ _ => pts_nil) (fun _ _ _ _ _ => (pe_op op_sub (pv 7) (pv 5))))) (pe_slice sl_list (pv 0) (po_some (pe_op op_add (pv 4) pe_int)) po_none)))) pss_nil)
      (pss_cons (ps_if (pt_cmpR op_eq (pv 2) pe_int (nomark _)) (pss_one (ps_ret (pe_lc (own := [("year", 7)]) (g := gName 7) (tt := tYes) rfl sc_law_other_years.nd (pi_list (pv 0)) (blkOk_by (N := ["years", "pool", "word", "free", "at", "change", "k", "year"]) (sc := defScope s_law_other_years) (by decide +kernel)) (fun _ _ _ _ _ => (pg_name (i := 7) sc_law_other_years.nd rfl (Or.inl rfl))) (fun _ _ _ _ _ => pts_nil) (fun _ _ _ _ _ => (pv 5))))) pss_nil)
      (pss_cons (ps_if (pt_cmpR op_eq (pv 2) pe_int (nomark _)) (pss_one (ps_ret (pe_op op_cat (pe_slice sl_list (pv 0) po_none (po_some (pv 4))) (pe_lc (own := [("year", 7)]) (g := gName 7) (tt := tYes) rfl sc_law_other_years.nd (pi_list (pe_slice sl_list (pv 0) (po_some (pv 4)) po_none)) (blkOk_by (N := ["years", "pool", "word", "free", "at", "change", "k", "year"]) (sc := defScope s_law_other_years) (by decide +kernel)) (fun _ _ _ _ _ => (pg_name (i := 7) sc_law_other_years.nd rfl (Or.inl rfl))) (fun _ _ _ _ _ => pts_nil) (fun _ _ _ _ _ => (pe_op op_add (pv 7) (pv 5))))))) pss_nil)
      (pss_cons (ps_if (pt_cmpR op_eq (pv 2) pe_int (nomark _)) (pss_one (ps_ret (pe_slice sl_list (pv 0) po_none (po_some (pv 4))))) pss_nil)
      (pss_one (ps_ret (pv 0))))))))))))))), ?_⟩
    have gY : GI H y 12 := ⟨ys, hY, hyl⟩
    obtain ⟨v0, _, e0⟩ := atI_ok (xs := ps) (j := 0) (by omega) (by omega)
    obtain ⟨v1, _, e1⟩ := atI_ok (xs := ps) (j := 1) (by omega) (by omega)
    obtain ⟨v2, _, e2⟩ := atI_ok (xs := ps) (j := 2) (by omega) (by omega)
    have ly : (((ivs ys).length : Nat) : Int).toNat = ys.length := by rw [ivs_len, Int.toNat_natCast]
    refine ⟨_, rfl, p, _, _, _, rfl, rfl, hP, e0, .inl ⟨_, rfl, _, _, rfl, rfl, by show (0 : Int) < 9; decide, ?_⟩⟩
    refine ⟨_, rfl, y, _, rfl, .inl (SqL.of hY), _, rfl, by rw [ivs_len]; omega, by rw [ivs_len]; omega, fun F hF => lc_range (n := (((ivs ys).length : Nat) : Int).toNat) (fun i H2 => Same H H2 ∧ ∃ zs : List Int, H2 F = some (.lst (ivs zs)) ∧ zs.length = i) ⟨same_new hF, [], upd_same, rfl⟩ ?_ ?_⟩
    · rintro i H3 hi ⟨s3, zs, h3, hz⟩
      rw [ly] at hi
      obtain ⟨v, _, e⟩ := atI_ok (xs := ps) (j := (40 : Int) + (0 + (i : Int))) (by omega) (by omega)
      refine ⟨rfl, _, rfl, _, rfl, _, _, rfl, rfl, p, _, _, _, rfl, rfl, s3.seq hP, e, .inl ⟨_, rfl, _, _, rfl, rfl, by show (0 : Int) < 2001; decide, _, _, rfl, rfl, ?_⟩⟩
      exact ⟨_, h3, small_int (by rw [ivs_len]; omega), fun b o e => by rw [upd_ne (ne_of_none e hF)]; exact s3 _ _ e, zs ++ [_], by rw [upd_same]; show some (HO.lst (ivs zs ++ [V.int _])) = some (HO.lst ((zs ++ [_]).map V.int)); rw [List.map_append]; rfl, by rw [List.length_append, hz]; rfl⟩
    · rintro H3 ⟨s3, zs, h3, hz⟩
      rw [ly] at hz
      have gF : GI H3 F 12 := ⟨zs, h3, by omega⟩
      refine ⟨_, rfl, p, _, _, _, rfl, rfl, s3.seq hP, e1, .inl ⟨_, rfl, _, rfl, y, _, rfl, .inl (SqL.of (s3 _ _ hY)), _, _, rfl, rfl, _, _, rfl, rfl, by rw [ivs_len]; omega, ?_⟩⟩
      generalize v1 % (((ivs ys).length : Int) + 1) = at_
      refine ⟨_, rfl, rfl, _, rfl, ite2 (fun hb => ?_) (fun hb => ?_)⟩
      · refine ⟨_, rfl, _, rfl, _, rfl, _, rfl, slI gF fun a H4 s4 ga => ?_⟩
        refine ⟨_, rfl, by show 1 ≤ sizeLine; decide, fun b hb4 => ?_⟩
        have s5 := s4.trans (same_new (o := .lst [V.int 0]) hb4)
        have gb : GI (upd H4 b (.lst [V.int 0])) b 1 := ⟨[0], upd_same, by decide⟩
        have ga := ga.same (same_new (o := .lst [V.int 0]) hb4)
        generalize upd H4 b _ = H5 at s5 gb ga ⊢
        refine catI (gF.same s5) gb (by decide) fun c H6 s6 gc => ?_
        refine ⟨_, rfl, _, rfl, by show 2 ≤ sizeLine; decide, fun d hd => ?_⟩
        have s7 := s6.trans (same_new (o := .lst [V.int (-1001), .int 0]) hd)
        have gd : GI (upd H6 d (.lst [V.int (-1001), .int 0])) d 2 := ⟨[-1001, 0], upd_same, by decide⟩
        have gc := gc.same (same_new (o := .lst [V.int (-1001), .int 0]) hd)
        generalize upd H6 d _ = H7 at s7 gd gc ⊢
        refine catI ((gF.same s5).same s7) gd (by decide) fun f H8 s8 gf => ?_
        refine ⟨by show 4 ≤ sizeLine; decide, fun L hL => ?_⟩
        have s9 := s8.trans (same_new (o := .lst [V.ref F, .ref a, .ref c, .ref f]) hL)
        have hall : ∀ x ∈ [V.ref F, .ref a, .ref c, .ref f], ∃ q, x = .ref q ∧ GI (upd H8 L (.lst [V.ref F, .ref a, .ref c, .ref f])) q 40 := by
          intro x hx
          rcases List.mem_cons.mp hx with rfl | hx
          · exact ⟨_, rfl, (gF.same (s5.trans (s7.trans s9))).mono (by decide)⟩
          rcases List.mem_cons.mp hx with rfl | hx
          · exact ⟨_, rfl, (ga.same (s7.trans s9)).mono (by decide)⟩
          rcases List.mem_cons.mp hx with rfl | hx
          · exact ⟨_, rfl, (gc.same s9).mono (by decide)⟩
          rw [List.mem_singleton.mp hx]
          exact ⟨_, rfl, (gf.same (same_new hL)).mono (by decide)⟩
        obtain ⟨x, hx, ex⟩ := atI_any (xs := [V.ref F, .ref a, .ref c, .ref f]) (j := v2 % 4) (Int.emod_nonneg _ (by decide)) (Int.emod_lt_of_pos _ (by decide))
        obtain ⟨q, rfl, gq⟩ := hall x hx
        have sa := s3.trans (s5.trans (s7.trans s9))
        exact ⟨_, rfl, p, _, _, _, rfl, rfl, sa.seq hP, e2, .inl ⟨_, rfl, _, _, rfl, rfl, by show (0 : Int) < 4; decide, L, _, _, _, rfl, rfl, SqL.of upd_same, ex, k q _ sa gq⟩⟩
      refine ⟨_, rfl, rfl, _, rfl, ite2 (fun hb8 => ?_) (fun hb8 => ?_)⟩
      · refine ⟨_, rfl, F, zs, rfl, SqL.of h3, fun n1 a pm1 _ ha => ?_⟩
        have s4 := same_new (o := .lst (n1.map V.int)) ha
        have ga : GI (upd H3 a (.lst (n1.map V.int))) a 12 := ⟨n1, upd_same, by rw [pm1.length_eq]; omega⟩
        generalize upd H3 a _ = H4 at s4 ga ⊢
        refine ⟨_, rfl, F, zs, rfl, SqL.of (s4 _ _ h3), fun n2 b pm2 _ hb4 => ?_⟩
        have s5 := same_new (o := .lst (n2.map V.int)) hb4
        have gb : GI (upd H4 b (.lst (n2.map V.int))) b 12 := ⟨n2, upd_same, by rw [pm2.length_eq]; omega⟩
        generalize upd H4 b _ = H5 at s5 gb ⊢
        refine ⟨_, rfl, _, rfl, slI gb fun c H6 s6 gc => ?_⟩
        refine ⟨_, rfl, F, zs, rfl, SqL.of (s6 _ _ (s5 _ _ (s4 _ _ h3))), fun n3 d pm3 _ hd => ?_⟩
        have s7 := same_new (o := .lst (n3.map V.int)) hd
        have gd : GI (upd H6 d (.lst (n3.map V.int))) d 12 := ⟨n3, upd_same, by rw [pm3.length_eq]; omega⟩
        generalize upd H6 d _ = H7 at s7 gd ⊢
        refine ⟨_, rfl, by show 1 ≤ sizeLine; decide, fun f hf => ?_⟩
        have s8 := same_new (o := .lst [V.int (-1001)]) hf
        have gf : GI (upd H7 f (.lst [V.int (-1001)])) f 1 := ⟨[-1001], upd_same, by decide⟩
        generalize upd H7 f _ = H8 at s8 gf ⊢
        refine catI (gd.same s8) gf (by decide) fun g H9 s9 gg => ?_
        refine ⟨by show 3 ≤ sizeLine; decide, fun L hL => ?_⟩
        have s10 := same_new (o := .lst [V.ref a, .ref c, .ref g]) hL
        have hall : ∀ x ∈ [V.ref a, .ref c, .ref g], ∃ q, x = .ref q ∧ GI (upd H9 L (.lst [V.ref a, .ref c, .ref g])) q 40 := by
          intro x hx
          rcases List.mem_cons.mp hx with rfl | hx
          · exact ⟨_, rfl, (ga.same (s5.trans (s6.trans (s7.trans (s8.trans (s9.trans s10)))))).mono (by decide)⟩
          rcases List.mem_cons.mp hx with rfl | hx
          · exact ⟨_, rfl, (gc.same (s7.trans (s8.trans (s9.trans s10)))).mono (by decide)⟩
          rw [List.mem_singleton.mp hx]
          exact ⟨_, rfl, (gg.same s10).mono (by decide)⟩
        obtain ⟨x, hx, ex⟩ := atI_any (xs := [V.ref a, .ref c, .ref g]) (j := v2 % 3) (Int.emod_nonneg _ (by decide)) (Int.emod_lt_of_pos _ (by decide))
        obtain ⟨q, rfl, gq⟩ := hall x hx
        have sa := s3.trans (s4.trans (s5.trans (s6.trans (s7.trans (s8.trans (s9.trans s10))))))
        exact ⟨_, rfl, p, _, _, _, rfl, rfl, sa.seq hP, e2, .inl ⟨_, rfl, _, _, rfl, rfl, by show (0 : Int) < 3; decide, L, _, _, _, rfl, rfl, SqL.of upd_same, ex, k q _ sa gq⟩⟩
      have gY := gY.same s3
      refine ⟨_, rfl, p, _, _, _, rfl, rfl, s3.seq hP, e2, .inl ⟨_, rfl, _, _, rfl, rfl, by show (0 : Int) < 9; decide, _, _, rfl, rfl, ?_⟩⟩
      refine ⟨_, rfl, rfl, _, rfl, ite2 (fun hb1 => ?_) (fun hb1 => ?_)⟩
      · refine ⟨_, rfl, _, rfl, _, rfl, slI gY fun a H4 s4 ga => ?_⟩
        refine ⟨_, rfl, _, rfl, _, _, rfl, rfl, _, rfl, ?_⟩
        dsimp only [tNoPart]
        refine slI (gY.same s4) fun b H5 s5 gb => catI (ga.same s5) gb (by decide) fun c H6 s6 gc => ?_
        exact k c _ (s3.trans (s4.trans (s5.trans s6))) (gc.mono (by decide))
      refine ⟨_, rfl, rfl, _, rfl, ite2 (fun hb2 => ?_) (fun hb2 => ?_)⟩
      · refine ⟨_, rfl, _, rfl, _, rfl, _, rfl, ?_⟩
        dsimp only [tNoPart]
        refine slI gY fun a H4 s4 ga => ?_
        obtain ⟨zc, ez, lz⟩ := id ga
        refine ⟨a, rfl, ⟨_, SqL.of ez⟩, fun D hD => lc_it walk_list (PvS H4 D fun i => ivs ((zc.take i).map fun t => t + (1 + v2 % 9))) (pv0 hD rfl) (fun i H2 _ q => q.1.seq (SqL.of ez)) ?_ ?_⟩
        · rintro i x H20 H2 hi q ⟨rfl, hx⟩
          obtain ⟨x, hx2, rfl⟩ := ivs_get hx
          exact ⟨rfl, _, rfl, _, rfl, _, _, rfl, rfl, q.push hD (map_push (f := fun t => t + (1 + v2 % 9)) hx2) (by rw [ivs_len, List.length_map, List.length_take]; omega)⟩
        rintro HD ⟨sD, hD5⟩
        have hD5 : HD D = some (.lst (ivs ((zc.take (ivs zc).length).map fun t => t + (1 + v2 % 9)))) := hD5
        rw [ivs_len, List.take_length] at hD5
        have gD : GI HD D 12 := ⟨_, hD5, by rw [List.length_map]; exact lz⟩
        clear hD5 ez lz hD
        refine catI (gY.same (s4.trans sD)) gD (by decide) fun c H6 s6 gc => ?_
        exact k c _ (s3.trans (s4.trans (sD.trans s6))) (gc.mono (by decide))
      refine ⟨_, rfl, rfl, _, rfl, ite2 (fun hb3 => ?_) (fun hb3 => ?_)⟩
      · refine ⟨_, rfl, _, rfl, _, rfl, slI gY fun b H4 s4 gb => ?_⟩
        refine ⟨_, rfl, _, rfl, _, rfl, _, rfl, _, _, rfl, rfl, _, rfl, slI (gY.same s4) fun a H5 s5 ga => ?_⟩
        obtain ⟨zc, ez, lz⟩ := id ga
        refine ⟨a, rfl, ⟨_, SqL.of ez⟩, fun D hD => lc_it walk_list (PvS H5 D fun i => ivs ((zc.take i).map fun t => t - (1 + v2 % 9))) (pv0 hD rfl) (fun i H2 _ q => q.1.seq (SqL.of ez)) ?_ ?_⟩
        · rintro i x H20 H2 hi q ⟨rfl, hx⟩
          obtain ⟨x, hx2, rfl⟩ := ivs_get hx
          exact ⟨rfl, _, rfl, _, rfl, _, _, rfl, rfl, q.push hD (map_push (f := fun t => t - (1 + v2 % 9)) hx2) (by rw [ivs_len, List.length_map, List.length_take]; omega)⟩
        rintro HD ⟨sD, hD5⟩
        have hD5 : HD D = some (.lst (ivs ((zc.take (ivs zc).length).map fun t => t - (1 + v2 % 9)))) := hD5
        rw [ivs_len, List.take_length] at hD5
        have gD : GI HD D 12 := ⟨_, hD5, by rw [List.length_map]; exact lz⟩
        clear hD5 ez lz hD
        refine catI (gb.same (s5.trans sD)) gD (by decide) fun c H6 s6 gc => ?_
        refine ⟨_, rfl, _, rfl, _, _, rfl, rfl, _, rfl, ?_⟩
        dsimp only [tNoPart]
        refine slI (gY.same (s4.trans (s5.trans (sD.trans s6)))) fun d H7 s7 gd => catI (gc.same s7) gd (by decide) fun f H8 s8 gf => ?_
        exact k f _ (s3.trans (s4.trans (s5.trans (sD.trans (s6.trans (s7.trans s8)))))) (gf.mono (by decide))
      refine ⟨_, rfl, rfl, _, rfl, ite2 (fun hb4 => ?_) (fun hb4 => ?_)⟩
      · obtain ⟨zc, ez, lz⟩ := id gY
        refine ⟨_, rfl, y, rfl, ⟨_, SqL.of ez⟩, fun D hD => lc_it walk_list (PvS H3 D fun i => ivs ((zc.take i).map fun t => 1 + v2 % 9)) (pv0 hD rfl) (fun i H2 _ q => q.1.seq (SqL.of ez)) ?_ ?_⟩
        · rintro i x H20 H2 hi q ⟨rfl, hx⟩
          obtain ⟨x, hx2, rfl⟩ := ivs_get hx
          exact ⟨rfl, _, rfl, q.push hD (map_push (f := fun t => 1 + v2 % 9) hx2) (by rw [ivs_len, List.length_map, List.length_take]; omega)⟩
        rintro HD ⟨sD, hD5⟩
        have hD5 : HD D = some (.lst (ivs ((zc.take (ivs zc).length).map fun t => 1 + v2 % 9))) := hD5
        rw [ivs_len, List.take_length] at hD5
        have gD : GI HD D 12 := ⟨_, hD5, by rw [List.length_map]; exact lz⟩
        clear hD5 ez lz hD
        exact k D _ (s3.trans sD) (gD.mono (by decide))
      refine ⟨_, rfl, rfl, _, rfl, ite2 (fun hb5 => ?_) (fun hb5 => ?_)⟩
      · refine ⟨_, rfl, _, rfl, _, rfl, slI gY fun b H4 s4 gb => ?_⟩
        refine ⟨_, rfl, _, rfl, _, rfl, ?_⟩
        dsimp only [tNoPart]
        refine slI (gY.same s4) fun a H5 s5 ga => ?_
        obtain ⟨zc, ez, lz⟩ := id ga
        refine ⟨a, rfl, ⟨_, SqL.of ez⟩, fun D hD => lc_it walk_list (PvS H5 D fun i => ivs ((zc.take i).map fun t => t + (1 + v2 % 9))) (pv0 hD rfl) (fun i H2 _ q => q.1.seq (SqL.of ez)) ?_ ?_⟩
        · rintro i x H20 H2 hi q ⟨rfl, hx⟩
          obtain ⟨x, hx2, rfl⟩ := ivs_get hx
          exact ⟨rfl, _, rfl, _, rfl, _, _, rfl, rfl, q.push hD (map_push (f := fun t => t + (1 + v2 % 9)) hx2) (by rw [ivs_len, List.length_map, List.length_take]; omega)⟩
        rintro HD ⟨sD, hD5⟩
        have hD5 : HD D = some (.lst (ivs ((zc.take (ivs zc).length).map fun t => t + (1 + v2 % 9)))) := hD5
        rw [ivs_len, List.take_length] at hD5
        have gD : GI HD D 12 := ⟨_, hD5, by rw [List.length_map]; exact lz⟩
        clear hD5 ez lz hD
        refine catI (gb.same (s5.trans sD)) gD (by decide) fun c H6 s6 gc => ?_
        exact k c _ (s3.trans (s4.trans (s5.trans (sD.trans s6)))) (gc.mono (by decide))
      refine ⟨_, rfl, rfl, _, rfl, ite2 (fun hb6 => ?_) (fun hb6 => ?_)⟩
      · refine ⟨_, rfl, _, rfl, _, rfl, slI gY fun b H4 s4 gb => ?_⟩
        exact k b _ (s3.trans s4) (gb.mono (by decide))
      exact ⟨_, rfl, k y _ s3 (gY.mono (by decide))⟩
end
end My
set_option maxRecDepth 100000
set_option maxHeartbeats 8000000
set_option exponentiation.threshold 10000
namespace My
open PySem L2
section
variable {P : Program} {w : World} {K : PySem.W.Frag} {mg : Str → Option Value} {base : Heap} {A : Ad}
def spOOrder (K : PySem.W.Frag) : Sp := fun vs H Q _ => ∃ h n p hs cs, ∃ ps : List Int, vs = [.ref h, .ref n, .ref p] ∧ H h = some (.lst (sv hs)) ∧ SqL K H n (sv cs) ∧ (∀ z ∈ cs, Good z) ∧ hs.Perm cs ∧ cs.length ≤ 12 ∧ SqL K H p (ps.map V.int) ∧ ps.length = 60 ∧ ∀ a H', Same H H' → GLn H' a 40 → Q (.ref a) H'
theorem ok_oorder (T : Txt P K mg A) : FnOk P w K mg base CX0 2 A.a_law_other_order A.d_law_other_order ["hidden", "names", "pool"] (spOOrder K) := by
  have G_law_order := ok_order (P := P) (w := w) (base := base) T
  refine T.F_law_other_order.ok sc_law_other_order (fun vs H Q E h => ?_) (fun cdv A' outer s H vs Q E hr h => ?_)
  · obtain ⟨h, n, p, hs, cs, ps, rfl, _⟩ := h
    rfl
  · obtain ⟨h, n, p, hs, cs, ps, rfl, hH, hN, hg, hpm, hcl, hP, hpl, k⟩ := h
    refine ⟨_, (pss_cons (ps_set (i := 3) sc_law_other_order.nd rfl (Or.inl rfl) (pe_op op_mod (pe_callTy call_int1 (by rfl) T.n_int (by decide +kernel) (pa_cons (pe_ix ix_list (pv 2) pe_int (fun _ _ => rfl)) pa_nil)) pe_int))
      (pss_cons (ps_set (i := 4) sc_law_other_order.nd rfl (Or.inl rfl) (pe_op op_mod (pe_callTy call_int1 (by rfl) T.n_int (by decide +kernel) (pa_cons (pe_ix ix_list (pv 2) pe_int (fun _ _ => rfl)) pa_nil)) (pe_op op_add (pe_callB call_len_seq (by rfl) T.n_len (by decide +kernel) (pa_cons (pv 0) pa_nil)) pe_int)))
      (pss_cons (ps_if (pt_cmpR op_eq (pv 3) pe_int (nomark _)) (pss_one (ps_ret (pe_op op_cat (pe_slice sl_list (pv 0) po_none (po_some (pv 4))) (pe_slice sl_list (pv 0) (po_some (pe_op op_add (pv 4) pe_int)) po_none)))) pss_nil)
      (pss_cons (ps_if (pt_cmpR op_eq (pv 3) pe_int (nomark _)) (pss_one (ps_ret (pe_op op_cat (pe_op op_cat (pe_slice sl_list (pv 0) po_none (po_some (pv 4))) (pe_lst (pa_cons pe_str pa_nil))) (pe_slice sl_list (pv 0) (po_some (pe_op op_add (pv 4) pe_int)) po_none)))) pss_nil)
      (pss_cons (ps_if (pt_cmpR op_eq (pv 3) pe_int (nomark _)) (pss_one (ps_ret (pe_op op_cat (pe_op op_cat (pe_slice sl_list (pv 0) po_none (po_some (pv 4))) (pe_slice sl_list (pv 0) po_none (po_some pe_int))) (pe_slice sl_list (pv 0) (po_some (pv 4)) po_none)))) pss_nil)
      (pss_cons (ps_if (pt_cmpR op_eq (pv 3) pe_int (nomark _)) (pss_one (ps_ret (pe_call G_law_order (hr.mono (by decide)) rfl T.mg_law_order T.F_law_order.kp T.b_law_order .nil pass0 (pa_cons (pv 1) (pa_cons (pv 2) (pa_cons pe_int pa_nil)))))) pss_nil)
      (pss_cons (ps_if (pt_cmpR op_eq (pv 3) pe_int (nomark _)) (pss_one (ps_ret (pe_lc (own := [("k", 5)]) (g := gName 5) (tt := tYes) rfl sc_law_other_order.nd (pi_range1 (by rfl) T.n_range (pa_cons (pe_callB call_len_seq (by rfl) T.n_len (by decide +kernel) (pa_cons (pv 0) pa_nil)) pa_nil)) (blkOk_by (N := ["hidden", "names", "pool", "word", "at", "k"]) (sc := defScope s_law_other_order) (by decide +kernel)) (fun _ _ _ _ _ => (pg_name (i := 5) sc_law_other_order.nd rfl (Or.inl rfl))) (fun _ _ _ _ _ => pts_nil) (fun _ _ _ _ _ => (pe_ix (show IxR _ (rIxL K) from ix_list) (pv 0) (pe_op op_sub (pe_op op_sub (pe_callB (show CallR _ _ (rLen2 K) from call_len_seq) (by rfl) T.n_len (by decide +kernel) (pa_cons (pv 0) pa_nil)) pe_int) (pv 5)) (fun _ _ => rfl)))))) pss_nil)
      (pss_one (ps_ret (pv 0)))))))))), ?_⟩
    have hhl : hs.length ≤ 12 := by rw [hpm.length_eq]; exact hcl
    have gH : GLn H h 12 := ⟨hs, hH, fun z hz => hg z (hpm.mem_iff.mp hz), hhl⟩
    obtain ⟨v3, _, e3⟩ := atI_ok (xs := ps) (j := 3) (by omega) (by omega)
    obtain ⟨v4, _, e4⟩ := atI_ok (xs := ps) (j := 4) (by omega) (by omega)
    have ly : (((sv hs).length : Nat) : Int).toNat = hs.length := by rw [len_sv, Int.toNat_natCast]
    refine ⟨_, rfl, p, _, _, _, rfl, rfl, hP, e3, .inl ⟨_, rfl, _, _, rfl, rfl, by show (0 : Int) < 8; decide, ?_⟩⟩
    refine ⟨_, rfl, p, _, _, _, rfl, rfl, hP, e4, .inl ⟨_, rfl, _, rfl, h, _, rfl, .inl (SqL.of hH), _, _, rfl, rfl, _, _, rfl, rfl, by rw [len_sv]; omega, ?_⟩⟩
    generalize v4 % (((sv hs).length : Int) + 1) = at_
    refine ⟨_, rfl, rfl, _, rfl, ite2 (fun hb1 => ?_) (fun hb1 => ?_)⟩
    · refine ⟨_, rfl, _, rfl, _, rfl, slG gH fun a H4 s4 ga => ?_⟩
      refine ⟨_, rfl, _, rfl, _, _, rfl, rfl, _, rfl, ?_⟩
      dsimp only [tNoPart]
      refine slG (gH.same s4) fun b H5 s5 gb => catG (ga.same s5) gb (by decide) fun c H6 s6 gc => ?_
      exact k c _ (s4.trans (s5.trans s6)) (gc.mono (by decide))
    refine ⟨_, rfl, rfl, _, rfl, ite2 (fun hb2 => ?_) (fun hb2 => ?_)⟩
    · refine ⟨_, rfl, _, rfl, _, rfl, slG gH fun a H4 s4 ga => ?_⟩
      refine ⟨by show 1 ≤ sizeLine; decide, fun f hf => ?_⟩
      have s5 := same_new (o := .lst (sv ["stranger"])) hf
      have gf : GLn (upd H4 f (.lst (sv ["stranger"]))) f 1 := ⟨["stranger"], upd_same, fun y hy => by rw [List.mem_singleton.mp hy]; exact good_stranger, by decide⟩
      have ga := ga.same s5
      generalize hX : upd H4 f _ = H5 at s5 gf ga
      refine catG (by show GLn (upd H4 f (.lst (sv ["stranger"]))) a 12; rw [hX]; exact ga) (by show GLn (upd H4 f (.lst (sv ["stranger"]))) f 1; rw [hX]; exact gf) (by decide) fun c H6 s6 gc => ?_
      have s6 : Same H5 H6 := by rw [← hX]; exact s6
      refine ⟨_, rfl, _, rfl, _, _, rfl, rfl, _, rfl, ?_⟩
      dsimp only [tNoPart]
      refine slG (gH.same (s4.trans (s5.trans s6))) fun b H7 s7 gb => catG (gc.same s7) gb (by decide) fun d H8 s8 gd => ?_
      exact k d _ (s4.trans (s5.trans (s6.trans (s7.trans s8)))) (gd.mono (by decide))
    refine ⟨_, rfl, rfl, _, rfl, ite2 (fun hb3 => ?_) (fun hb3 => ?_)⟩
    · refine ⟨_, rfl, _, rfl, _, rfl, slG gH fun a H4 s4 ga => ?_⟩
      refine ⟨_, rfl, _, rfl, slG (gH.same s4) fun b H5 s5 gb => catG (ga.same s5) gb (by decide) fun c H6 s6 gc => ?_⟩
      refine ⟨_, rfl, _, rfl, _, rfl, ?_⟩
      dsimp only [tNoPart]
      refine slG (gH.same (s4.trans (s5.trans s6))) fun d H7 s7 gd => catG (gc.same s7) gd (by decide) fun f H8 s8 gf => ?_
      exact k f _ (s4.trans (s5.trans (s6.trans (s7.trans s8)))) (gf.mono (by decide))
    refine ⟨_, rfl, rfl, _, rfl, ite2 (fun hb4 => ?_) (fun hb4 => ?_)⟩
    · exact ⟨_, rfl, _, rfl, n, p, cs, ps, 5, rfl, hN, hP, hcl, by decide, by omega, fun a os H4 s4 _ ha hpo => k a H4 s4 ⟨os, ha, fun z hz => hg z (hpo.mem_iff.mp hz), by rw [hpo.length_eq]; omega⟩⟩
    refine ⟨_, rfl, rfl, _, rfl, ite2 (fun hb5 => ?_) (fun hb5 => ?_)⟩
    · refine ⟨_, rfl, h, _, rfl, .inl (SqL.of hH), _, rfl, by rw [len_sv]; omega, by rw [len_sv]; omega, fun F hF => lc_range (n := (((sv hs).length : Nat) : Int).toNat) (fun i H2 => Same H H2 ∧ ∃ zs : List Str, H2 F = some (.lst (sv zs)) ∧ zs.length = i ∧ ∀ z ∈ zs, z ∈ hs) ⟨same_new hF, [], upd_same, rfl, fun z h => nomatch h⟩ ?_ ?_⟩
      · rintro i H3 hi ⟨s3, zs, h3, hz, hin⟩
        rw [ly] at hi
        have ll : (((sv hs).length : Nat) : Int) = (hs.length : Int) := by rw [len_sv]
        obtain ⟨x, hx, ex⟩ := atI_any (xs := sv hs) (j := ((sv hs).length : Int) - 1 - (0 + (i : Int))) (by omega) (by omega)
        obtain ⟨z, hz2, rfl⟩ := List.mem_map.mp hx
        refine ⟨rfl, _, rfl, _, rfl, h, _, rfl, .inl (s3.seq (SqL.of hH)), _, _, rfl, rfl, _, rfl, _, _, rfl, rfl, h, _, _, _, rfl, rfl, s3.seq (SqL.of hH), ex, ?_⟩
        exact ⟨_, h3, small_int (by rw [len_sv]; omega), fun b o e => by rw [upd_ne (ne_of_none e hF)]; exact s3 _ _ e, zs ++ [z], by rw [upd_same]; show some (HO.lst (sv zs ++ [V.str z])) = some (HO.lst ((zs ++ [z]).map V.str)); rw [List.map_append]; rfl, by rw [List.length_append, hz]; rfl, fun y hy => (List.mem_append.mp hy).elim (hin y) (fun q => by rw [List.mem_singleton.mp q]; exact hz2)⟩
      · rintro H3 ⟨s3, zs, h3, hz, hin⟩
        rw [ly] at hz
        exact k F _ s3 ⟨zs, h3, fun z hz => gH.elim fun w hw => hg z (hpm.mem_iff.mp (hin z hz)), by omega⟩
    exact ⟨_, rfl, k h _ (Same.refl _) (gH.mono (by decide))⟩
end
end My
set_option maxRecDepth 100000
set_option maxHeartbeats 8000000
set_option exponentiation.threshold 10000
namespace My
open PySem L2
open C8 (pss_cut)
theorem ok_no {cs : List Str} {rs : List (List Str)} {n : Int} {l : Int} {m : Option Int} (h : ¬ (0 ≤ n ∧ n < (rs.length : Int))) : okSpan cs rs (n, l, m) = false := by
  unfold okSpan hasTime
  show ((decide (0 ≤ n ∧ n < (rs.length : Int)) && _) && _) = false
  rw [decide_eq_false h]; rfl
theorem ok_time_no {cs : List Str} {rs : List (List Str)} {n : Int} {l : Int} {m : Option Int} (h : areTimes l m = false) : okSpan cs rs (n, l, m) = false := by
  unfold okSpan
  show (_ && areTimes l m) = false
  rw [h, Bool.and_false]
theorem canon_nil {cs r : List Str} (h : r.length = 0) : canon cs r = [] := by
  rw [List.length_eq_zero_iff.mp h]
  unfold canon
  rw [List.filter_eq_nil_iff]
  intro z _; simp
theorem ok_empty {cs : List Str} {rs : List (List Str)} {n : Nat} {l : Int} {m : Option Int} (h : (rs.getD n []).length = 0) : okSpan cs rs (((n : Nat) : Int), l, m) = false := by
  unfold okSpan hasTime
  show ((decide (0 ≤ ((n : Nat) : Int) ∧ ((n : Nat) : Int) < (rs.length : Int)) && decide (0 < (canon cs (rs.getD ((n : Nat) : Int).toNat [])).length)) && _) = false
  rw [Int.toNat_natCast, canon_nil h, decide_eq_false (show ¬ 0 < ([] : List Str).length by decide), Bool.and_false]; rfl
theorem lowT {l : Int} {m : Option Int} (h : ¬ (0 ≤ l ∧ l ≤ 1000000)) : areTimes l m = false := by
  unfold areTimes; rw [decide_eq_false h]; rfl
theorem mostT {l m : Int} (h : ¬ (l ≤ m ∧ m ≤ 1000000)) : areTimes l (some m) = false := by
  unfold areTimes
  show (_ && decide (l ≤ m ∧ m ≤ 1000000)) = false
  rw [decide_eq_false h, Bool.and_false]
theorem Tl.take {sq : Hp → Addr → List V → Prop} {H : Hp} {ts : List Addr} {ss : List TSp} (h : Tl sq H ts ss) (n : Nat) : Tl sq H (ts.take n) (ss.take n) := ⟨by rw [List.length_take, List.length_take, h.len], fun i t s a b => by
  rw [List.getElem?_take] at a b
  split at a
  · rename_i hi; rw [if_pos hi] at b; exact h.at_ i t s a b
  · cases a⟩
theorem Tl.drop {sq : Hp → Addr → List V → Prop} {H : Hp} {ts : List Addr} {ss : List TSp} (h : Tl sq H ts ss) (n : Nat) : Tl sq H (ts.drop n) (ss.drop n) := ⟨by rw [List.length_drop, List.length_drop, h.len], fun i t s a b => by
  rw [List.getElem?_drop] at a b
  exact h.at_ _ t s a b⟩
section
variable {P : Program} {w : World} {K : PySem.W.Frag} {mg : Str → Option Value} {base : Heap} {A : Ad}
def spBad (K : PySem.W.Frag) : Sp := fun vs H Q _ => ∃ r t p rts rs cs ts ss, ∃ ps : List Int, vs = [.ref r, .ref t, .ref p] ∧ SqL K H r (rts.map V.ref) ∧ LsA K H rts rs ∧ (∀ r ∈ rs, RowOk cs r) ∧ rs.length ≤ 48 ∧ SqL K H t (ts.map V.ref) ∧ Tl (SqT K) H ts ss ∧ ss.length ≤ 6 ∧ SqL K H p (ps.map V.int) ∧ ps.length = 60 ∧
  ∀ q L us (n : Nat) (s : TSp) H', Same H H' → n ≤ ss.length → okSpan cs rs s = false → H' q = some (.lst [.ref L, .int (n : Nat)]) → H' L = some (.lst (us.map V.ref)) → Tl (SqT K) H' us (ss.take n ++ s :: ss.drop n) → Q (.ref q) H'
theorem ok_bad (T : Txt P K mg A) : FnOk P w K mg base CX0 1 A.a_law_bad_spans A.d_law_bad_spans ["rows", "told", "pool"] (spBad K) := by
  refine T.F_law_bad_spans.ok sc_law_bad_spans (fun vs H Q E h => ?_) (fun cdv A' outer s H vs Q E hr h => ?_)
  · obtain ⟨r, t, p, rts, rs, cs, ts, ss, ps, rfl, _⟩ := h
    rfl
  · obtain ⟨r, t, p, rts, rs, cs, ts, ss, ps, rfl, hR, hRs, hRow, hrl, hTd, hTs, hsl, hP, hpl, k⟩ := h
    refine ⟨_, (pss_cons (ps_setLc (i := 3) (own := [("i", 12)]) (g := gName 12) (tt := _) rfl sc_law_bad_spans.nd rfl rfl (sw_true rfl rfl rfl (by decide +kernel)) (pi_range1 (by rfl) T.n_range (pa_cons (pe_callB call_len_seq (by rfl) T.n_len (by decide +kernel) (pa_cons (pv 0) pa_nil)) pa_nil)) (blkOk_by (N := ["rows", "told", "pool", "full", "empty", "at", "word", "one", "number", "least", "kinds", "kind", "i"]) (sc := defScope s_law_bad_spans) (by decide +kernel)) (fun _ _ _ _ _ => (pg_name (i := 12) sc_law_bad_spans.nd rfl (Or.inl rfl))) (fun _ _ _ _ _ => (pts_one (pt_cmpR op_gt (pe_callB (show CallR _ _ (rLen2 K) from call_len_seq) (by rfl) T.n_len (by decide +kernel) (pa_cons (pe_ix (show IxR _ (rIxL K) from ix_list) (pv 0) (pv 12) (fun _ _ => rfl)) pa_nil)) pe_int (nomark _)))) (fun _ _ _ _ _ => (pv 12)))
      (pss_cons (ps_setLc (i := 4) (own := [("i", 12)]) (g := gName 12) (tt := _) rfl sc_law_bad_spans.nd rfl rfl (sw_true rfl rfl rfl (by decide +kernel)) (pi_range1 (by rfl) T.n_range (pa_cons (pe_callB call_len_seq (by rfl) T.n_len (by decide +kernel) (pa_cons (pv 0) pa_nil)) pa_nil)) (blkOk_by (N := ["rows", "told", "pool", "full", "empty", "at", "word", "one", "number", "least", "kinds", "kind", "i"]) (sc := defScope s_law_bad_spans) (by decide +kernel)) (fun _ _ _ _ _ => (pg_name (i := 12) sc_law_bad_spans.nd rfl (Or.inl rfl))) (fun _ _ _ _ _ => (pts_one (pt_cmpR op_eq (pe_callB (show CallR _ _ (rLen2 K) from call_len_seq) (by rfl) T.n_len (by decide +kernel) (pa_cons (pe_ix (show IxR _ (rIxL K) from ix_list) (pv 0) (pv 12) (fun _ _ => rfl)) pa_nil)) pe_int (nomark _)))) (fun _ _ _ _ _ => (pv 12)))
      (pss_cons (ps_set (i := 5) sc_law_bad_spans.nd rfl (Or.inl rfl) (pe_op op_mod (pe_callTy call_int1 (by rfl) T.n_int (by decide +kernel) (pa_cons (pe_ix ix_list (pv 2) pe_int (fun _ _ => rfl)) pa_nil)) (pe_op op_add (pe_callB call_len_seq (by rfl) T.n_len (by decide +kernel) (pa_cons (pv 1) pa_nil)) pe_int)))
      (pss_cons (ps_set (i := 6) sc_law_bad_spans.nd rfl (Or.inl rfl) (pe_op op_mod (pe_callTy call_int1 (by rfl) T.n_int (by decide +kernel) (pa_cons (pe_ix ix_list (pv 2) pe_int (fun _ _ => rfl)) pa_nil)) pe_int))
      (pss_cons (ps_set (i := 7) sc_law_bad_spans.nd rfl (Or.inl rfl) (pe_ix ix_list (pe_lst (pa_cons (pe_tup (pa_cons (pe_callB call_len_seq (by rfl) T.n_len (by decide +kernel) (pa_cons (pv 0) pa_nil)) (pa_cons pe_int (pa_cons pe_non pa_nil)))) (pa_cons (pe_tup (pa_cons (pe_un un_neg pe_int) (pa_cons pe_int (pa_cons pe_non pa_nil)))) pa_nil))) (pe_op op_mod (pe_callTy call_int1 (by rfl) T.n_int (by decide +kernel) (pa_cons (pe_ix ix_list (pv 2) pe_int (fun _ _ => rfl)) pa_nil)) pe_int) (fun _ _ => rfl)))
      (pss_cut (ps_if (PW.pt (pw_and (pt_cmpR op_eq (pv 6) pe_int (nomark _)) (pw_and1 (pt_cmpR op_gt (pe_callB call_len_seq (by rfl) T.n_len (by decide +kernel) (pa_cons (pv 4) pa_nil)) pe_int (nomark _))))) (pss_one (ps_set (i := 7) sc_law_bad_spans.nd rfl (Or.inl rfl) (pe_tup (pa_cons (pe_ix ix_list (pv 4) (pe_op op_mod (pe_callTy call_int1 (by rfl) T.n_int (by decide +kernel) (pa_cons (pe_ix ix_list (pv 2) pe_int (fun _ _ => rfl)) pa_nil)) (pe_callB call_len_seq (by rfl) T.n_len (by decide +kernel) (pa_cons (pv 4) pa_nil))) (fun _ _ => rfl)) (pa_cons pe_int (pa_cons pe_non pa_nil)))))) pss_nil)
      (pss_cut (ps_if (PW.pt (pw_and (pt_cmpR op_gt (pv 6) pe_int (nomark _)) (pw_and1 (pt_cmpR op_gt (pe_callB call_len_seq (by rfl) T.n_len (by decide +kernel) (pa_cons (pv 3) pa_nil)) pe_int (nomark _))))) (pss_cons (ps_set (i := 8) sc_law_bad_spans.nd rfl (Or.inl rfl) (pe_ix ix_list (pv 3) (pe_op op_mod (pe_callTy call_int1 (by rfl) T.n_int (by decide +kernel) (pa_cons (pe_ix ix_list (pv 2) pe_int (fun _ _ => rfl)) pa_nil)) (pe_callB call_len_seq (by rfl) T.n_len (by decide +kernel) (pa_cons (pv 3) pa_nil))) (fun _ _ => rfl)))
      (pss_cons (ps_set (i := 9) sc_law_bad_spans.nd rfl (Or.inl rfl) (pe_op op_mod (pe_callTy call_int1 (by rfl) T.n_int (by decide +kernel) (pa_cons (pe_ix ix_list (pv 2) pe_int (fun _ _ => rfl)) pa_nil)) pe_int))
      (pss_cons (ps_set (i := 10) sc_law_bad_spans.nd rfl (Or.inl rfl) (pe_lst (pa_cons (pe_tup (pa_cons (pe_op op_sub (pe_un un_neg pe_int) (pv 9)) (pa_cons pe_non pa_nil))) (pa_cons (pe_tup (pa_cons (pe_op op_sub (pe_un un_neg pe_int) (pv 9)) (pa_cons (pv 9) pa_nil))) (pa_cons (pe_tup (pa_cons (pe_op op_add (pv 9) pe_int) (pa_cons (pv 9) pa_nil))) (pa_cons (pe_tup (pa_cons (pe_op op_add (pe_op op_pow pe_int pe_int) pe_int) (pa_cons pe_non pa_nil))) pa_nil))))))
      (pss_cons (ps_set (i := 10) sc_law_bad_spans.nd rfl (Or.inl rfl) (pe_op op_cat (pv 10) (pe_lst (pa_cons (pe_tup (pa_cons (pv 9) (pa_cons (pe_op op_add (pe_op op_pow pe_int pe_int) pe_int) pa_nil))) (pa_cons (pe_tup (pa_cons (pe_op op_add (pe_op op_add (pe_op op_pow pe_int pe_int) pe_int) (pv 9)) (pa_cons (pe_op op_add (pe_op op_add (pe_op op_pow pe_int pe_int) pe_int) (pv 9)) pa_nil))) pa_nil)))))
      (pss_cons (ps_set (i := 11) sc_law_bad_spans.nd rfl (Or.inl rfl) (pe_ix ix_list (pv 10) (pe_op op_sub (pv 6) pe_int) (fun _ _ => rfl)))
      (pss_one (ps_set (i := 7) sc_law_bad_spans.nd rfl (Or.inl rfl) (pe_tup (pa_cons (pv 8) (pa_cons (pe_ix ix_tup (pv 11) pe_int (fun _ _ => rfl)) (pa_cons (pe_ix ix_tup (pv 11) pe_int (fun _ _ => rfl)) pa_nil))))))))))) pss_nil)
      (pss_one (ps_ret (pe_lst (pa_cons (pe_op op_cat (pe_op op_cat (pe_slice sl_list (pv 1) po_none (po_some (pv 5))) (pe_lst (pa_cons (pv 7) pa_nil))) (pe_slice sl_list (pv 1) (po_some (pv 5)) po_none)) (pa_cons (pv 5) pa_nil)))))))))))), ?_⟩
    have s0 : Same H H := Same.refl _
    have e1F : (((rts.map V.ref).length : Nat) : Int).toNat = rs.length := by rw [List.length_map, hRs.len, Int.toNat_natCast]
    refine ⟨_, rfl, r, _, rfl, .inl (s0.seq hR), _, rfl, by rw [List.length_map, hRs.len]; omega, by rw [List.length_map, hRs.len]; omega, fun F hF => lc_range (n := (((rts.map V.ref).length : Nat) : Int).toNat) (PvS H F fun i => nv ((List.range i).filter (fun i => decide (0 < (rs.getD i []).length)))) (pv0 hF rfl) ?_ ?_⟩
    · rintro i H3 hi q
      rw [e1F] at hi
      obtain ⟨t, r1, et, er1, atr, ho⟩ := row_at hRs hi
      have hg : (rs.getD i []) = r1 := by rw [List.getD_eq_getElem?_getD, er1]; rfl
      have ei : ((0 : Int) + (i : Int)) = ((i : Nat) : Int) := by omega
      rw [ei]
      refine ⟨rfl, _, rfl, _, rfl, r, _, _, _, rfl, rfl, q.1.seq (s0.seq hR), atr, t, _, rfl, q.1.sqa (s0.sqa ho), _, _, rfl, rfl, _, rfl, ?_⟩
      by_cases hb : 0 < r1.length
      · exact itY (by rw [len_sv]; omega) ⟨_, rfl, q.push hF (filt_T (f := fun i => decide (0 < (rs.getD i []).length)) (by rw [hg]; exact decide_eq_true hb)) (filt_len (by omega))⟩
      · exact itN (by rw [len_sv]; omega) (q.skip (filt_F (f := fun i => decide (0 < (rs.getD i []).length)) (by rw [hg]; exact decide_eq_false hb)))
    · rintro H3 ⟨s3, h3⟩
      rw [e1F] at h3
      have h3 : H3 F = some (.lst (nv (full rs))) := h3
      have s1 := s0.trans s3
      have e1Em : (((rts.map V.ref).length : Nat) : Int).toNat = rs.length := by rw [List.length_map, hRs.len, Int.toNat_natCast]
      refine ⟨_, rfl, r, _, rfl, .inl (s1.seq hR), _, rfl, by rw [List.length_map, hRs.len]; omega, by rw [List.length_map, hRs.len]; omega, fun Em hEm => lc_range (n := (((rts.map V.ref).length : Nat) : Int).toNat) (PvS H3 Em fun i => nv ((List.range i).filter (fun i => decide ((rs.getD i []).length = 0)))) (pv0 hEm rfl) ?_ ?_⟩
      · rintro i H3 hi q
        rw [e1Em] at hi
        obtain ⟨t, r1, et, er1, atr, ho⟩ := row_at hRs hi
        have hg : (rs.getD i []) = r1 := by rw [List.getD_eq_getElem?_getD, er1]; rfl
        have ei : ((0 : Int) + (i : Int)) = ((i : Nat) : Int) := by omega
        rw [ei]
        refine ⟨rfl, _, rfl, _, rfl, r, _, _, _, rfl, rfl, q.1.seq (s1.seq hR), atr, t, _, rfl, q.1.sqa (s1.sqa ho), rfl, _, rfl, ?_⟩
        by_cases hb : r1.length = 0
        · exact ifT (iEq (by rw [len_sv]; omega)) ⟨_, rfl, q.push hEm (filt_T (f := fun i => decide ((rs.getD i []).length = 0)) (by rw [hg]; exact decide_eq_true hb)) (filt_len (by omega))⟩
        · exact ifF (iNe (by rw [len_sv]; omega)) (q.skip (filt_F (f := fun i => decide ((rs.getD i []).length = 0)) (by rw [hg]; exact decide_eq_false hb)))
      · rintro He ⟨s3e, h3e⟩
        rw [e1Em] at h3e
        have h3e : He Em = some (.lst (nv (empty rs))) := h3e
        have s2 := s1.trans s3e
        have hF := s3e _ _ h3
        clear h3 s3 s3e s1
        obtain ⟨v20, _, e20⟩ := atI_ok (xs := ps) (j := 20) (by omega) (by omega)
        obtain ⟨v21, _, e21⟩ := atI_ok (xs := ps) (j := 21) (by omega) (by omega)
        obtain ⟨v22, _, e22⟩ := atI_ok (xs := ps) (j := 22) (by omega) (by omega)
        obtain ⟨v23, _, e23⟩ := atI_ok (xs := ps) (j := 23) (by omega) (by omega)
        have lt : ((ts.map V.ref).length : Int) = (ss.length : Int) := by rw [List.length_map, hTs.len]
        have mm : ∀ a q : Int, (0 : Int) < q → 0 ≤ a % q ∧ a % q < q := fun a q hq => ⟨Int.emod_nonneg _ (by omega), Int.emod_lt_of_pos _ hq⟩
        refine ⟨_, rfl, p, _, _, _, rfl, rfl, s2.seq hP, e20, .inl ⟨_, rfl, _, rfl, t, _, rfl, .inl (s2.seq hTd), _, _, rfl, rfl, _, _, rfl, rfl, by rw [lt]; omega, ?_⟩⟩
        have mA := mm v20 (((ts.map V.ref).length : Int) + 1) (by rw [lt]; omega)
        obtain ⟨n, hAn⟩ := Int.eq_ofNat_of_zero_le mA.1
        have hn : n ≤ ss.length := by rw [hAn, lt] at mA; omega
        refine ⟨_, rfl, p, _, _, _, rfl, rfl, s2.seq hP, e21, .inl ⟨_, rfl, _, _, rfl, rfl, by show (0 : Int) < 8; decide, ?_⟩⟩
        have mB := mm v21 8 (by decide)
        obtain ⟨wd, hwd⟩ : ∃ wd, v21 % 8 = wd := ⟨_, rfl⟩
        rw [hwd] at mB
        refine ⟨_, rfl, r, _, rfl, .inl (s2.seq hR), by show 3 ≤ sizeLine; decide, fun t1 n1 => ?_⟩
        generalize hG : upd He t1 _ = G1
        have q1 : Same He G1 := hG ▸ same_new n1
        have x1 := (congrFun hG t1).symm.trans upd_same
        clear hG
        refine ⟨_, rfl, by show 3 ≤ sizeLine; decide, fun t2 n2 => ?_⟩
        generalize hG : upd G1 t2 _ = G2
        have q2 : Same G1 G2 := hG ▸ same_new n2
        have x2 := (congrFun hG t2).symm.trans upd_same
        clear hG
        refine ⟨by show 2 ≤ sizeLine; decide, fun L2 n3 => ?_⟩
        generalize hG : upd G2 L2 _ = G3
        have q3 : Same G2 G3 := hG ▸ same_new n3
        have x3 := (congrFun hG L2).symm.trans upd_same
        clear hG
        have s3 := s2.trans (q1.trans (q2.trans q3))
        obtain ⟨x, hx, ex⟩ := atI_any (xs := [V.ref t1, .ref t2]) (j := v22 % 2) (mm v22 2 (by decide)).1 (mm v22 2 (by decide)).2
        refine ⟨_, rfl, p, _, _, _, rfl, rfl, s3.seq hP, e22, .inl ⟨_, rfl, _, _, rfl, rfl, by show (0 : Int) < 2; decide, L2, _, _, _, rfl, rfl, SqL.of x3, ex, ?_⟩⟩
        have hone : ∃ q s, x = V.ref q ∧ SqT K G3 q (v3 s) ∧ okSpan cs rs s = false := by
          rcases List.mem_cons.mp hx with rfl | hx
          · exact ⟨t1, (((rts.map V.ref).length : Int), 0, none), rfl, SqT.of (q3 _ _ (q2 _ _ x1)), ok_no (by rw [List.length_map, hRs.len]; omega)⟩
          · rw [List.mem_singleton.mp hx]
            exact ⟨t2, (-1, 0, none), rfl, SqT.of (q3 _ _ x2), ok_no (by omega)⟩
        obtain ⟨q, s0', rfl, hq, hqn⟩ := hone
        have hF := (q1.trans (q2.trans q3)) _ _ hF
        have hE := (q1.trans (q2.trans q3)) _ _ h3e
        clear q1 q2 q3 x1 x2 x3 n1 n2 n3 s2 ex hx h3e
        refine ⟨fun σ H6 => Same H H6 ∧ H6 F = some (.lst (nv (full rs))) ∧ ∃ (q : Addr) (s : TSp) (u8 u9 u10 u11 : Option V), σ = [some (.ref r), some (.ref t), some (.ref p), some (.ref F), some (.ref Em), some (.int (v20 % (((ts.map V.ref).length : Int) + 1))), some (.int (v21 % 8)), some (.ref q), u8, u9, u10, u11, none] ∧ SqT K H6 q (v3 s) ∧ okSpan cs rs s = false, ?_, ?_⟩
        · refine ⟨_, rfl, rfl, _, rfl, ?_⟩
          by_cases hw : wd = 1
          · refine itY (by show V.int (v21 % 8) = V.int 1; rw [hwd, hw]) ⟨_, rfl, Em, _, rfl, .inl (SqL.of hE), _, _, rfl, rfl, _, rfl, ?_⟩
            by_cases h0 : 0 < (empty rs).length
            · refine ifT (decide_eq_true (by rw [nv_len]; omega)) ?_
              have lF : ((nv (empty rs)).length : Int) = ((empty rs).length : Int) := by rw [nv_len]
              have m0 := mm v22 (((empty rs).length : Nat) : Int) (by omega)
              obtain ⟨j, hj⟩ := Int.eq_ofNat_of_zero_le m0.1
              have hjl : j < (empty rs).length := by omega
              have hm := List.getElem_mem hjl
              have en : atI (nv (empty rs)) ((j : Nat) : Int) = some (V.int (((empty rs)[j] : Nat) : Int)) := atI_nat (by rw [List.getElem?_map, List.getElem?_eq_getElem hjl]; rfl)
              generalize (empty rs)[j] = m at hm en
              have hm0 : (rs.getD m []).length = 0 := of_decide_eq_true (List.mem_filter.mp hm).2
              refine ⟨_, rfl, _, rfl, p, _, _, _, rfl, rfl, s3.seq hP, e22, .inl ⟨_, rfl, _, rfl, Em, _, rfl, .inl (SqL.of hE), _, _, rfl, rfl, by rw [lF]; omega, Em, _, _, _, rfl, rfl, SqL.of hE, by rw [lF, hj]; exact en, by show 3 ≤ sizeLine; decide, fun t4 n4 => ?_⟩⟩
              generalize hG : upd G3 t4 _ = G4
              have q4 : Same G3 G4 := hG ▸ same_new n4
              have x4 := (congrFun hG t4).symm.trans upd_same
              clear hG
              exact ⟨s3.trans q4, q4 _ _ hF, t4, (((m : Nat) : Int), 0, none), _, _, _, _, rfl, SqT.of x4, ok_empty hm0⟩
            · exact ifF (decide_eq_false (by rw [nv_len]; omega)) ⟨s3, hF, q, s0', _, _, _, _, rfl, hq, hqn⟩
          · exact itN (fun z => hw (by have := V.int.inj z; omega)) (ifF rfl ⟨s3, hF, q, s0', _, _, _, _, rfl, hq, hqn⟩)
        clear hq hqn hF hE s3
        rintro σ H6 ⟨s3, hF, q, s0', u8, u9, u10, u11, rfl, hq, hqn⟩
        refine ⟨fun σ H6 => Same H H6 ∧ H6 F = some (.lst (nv (full rs))) ∧ ∃ (q : Addr) (s : TSp) (u8 u9 u10 u11 : Option V), σ = [some (.ref r), some (.ref t), some (.ref p), some (.ref F), some (.ref Em), some (.int (v20 % (((ts.map V.ref).length : Int) + 1))), some (.int (v21 % 8)), some (.ref q), u8, u9, u10, u11, none] ∧ SqT K H6 q (v3 s) ∧ okSpan cs rs s = false, ?_, ?_⟩
        · refine ⟨_, rfl, _, _, rfl, rfl, _, rfl, ?_⟩
          by_cases hw : 1 < wd
          · refine itY (show (1 : Int) < v21 % 8 by omega) ⟨_, rfl, F, _, rfl, .inl (SqL.of hF), _, _, rfl, rfl, _, rfl, ?_⟩
            by_cases h0 : 0 < (full rs).length
            · refine ifT (decide_eq_true (by rw [nv_len]; omega)) ?_
              have lF : ((nv (full rs)).length : Int) = ((full rs).length : Int) := by rw [nv_len]
              have m0 := mm v22 (((full rs).length : Nat) : Int) (by omega)
              obtain ⟨j, hj⟩ := Int.eq_ofNat_of_zero_le m0.1
              have hjl : j < (full rs).length := by omega
              have en : atI (nv (full rs)) ((j : Nat) : Int) = some (V.int (((full rs)[j] : Nat) : Int)) := atI_nat (by rw [List.getElem?_map, List.getElem?_eq_getElem hjl]; rfl)
              generalize (full rs)[j] = m at en
              refine ⟨_, rfl, _, rfl, p, _, _, _, rfl, rfl, s3.seq hP, e22, .inl ⟨_, rfl, _, rfl, F, _, rfl, .inl (SqL.of hF), _, _, rfl, rfl, by rw [lF]; omega, F, _, _, _, rfl, rfl, SqL.of hF, by rw [lF, hj]; exact en, ?_⟩⟩
              refine ⟨_, rfl, p, _, _, _, rfl, rfl, s3.seq hP, e23, .inl ⟨_, rfl, _, _, rfl, rfl, by show (0 : Int) < 1001; decide, ?_⟩⟩
              have mL := mm v23 1001 (by decide)
              obtain ⟨le, hle⟩ : ∃ le, v23 % 1001 = le := ⟨_, rfl⟩
              rw [hle] at mL
              refine ⟨_, rfl, _, rfl, _, _, rfl, rfl, by show 2 ≤ sizeLine; decide, fun t5 n5 => ?_⟩
              generalize hG : upd H6 t5 _ = G5
              have q5 : Same H6 G5 := hG ▸ same_new n5
              have x5 := (congrFun hG t5).symm.trans upd_same
              clear hG
              refine ⟨_, rfl, _, rfl, _, _, rfl, rfl, _, rfl, by show 2 ≤ sizeLine; decide, fun t6 n6 => ?_⟩
              generalize hG : upd G5 t6 _ = G6
              have q6 : Same G5 G6 := hG ▸ same_new n6
              have x6 := (congrFun hG t6).symm.trans upd_same
              clear hG
              refine ⟨_, rfl, _, _, rfl, rfl, _, rfl, by show 2 ≤ sizeLine; decide, fun t7 n7 => ?_⟩
              generalize hG : upd G6 t7 _ = G7
              have q7 : Same G6 G7 := hG ▸ same_new n7
              have x7 := (congrFun hG t7).symm.trans upd_same
              clear hG
              refine ⟨_, _, rfl, rfl, ⟨by decide, by decide, by decide⟩, _, _, rfl, rfl, by show 2 ≤ sizeLine; decide, fun t8 n8 => ?_⟩
              generalize hG : upd G7 t8 _ = G8
              have q8 : Same G7 G8 := hG ▸ same_new n8
              have x8 := (congrFun hG t8).symm.trans upd_same
              clear hG
              refine ⟨by show 4 ≤ sizeLine; decide, fun L9 n9 => ?_⟩
              generalize hG : upd G8 L9 _ = G9
              have q9 : Same G8 G9 := hG ▸ same_new n9
              have x9 := (congrFun hG L9).symm.trans upd_same
              clear hG
              refine ⟨_, rfl, _, rfl, _, _, rfl, rfl, ⟨by decide, by decide, by decide⟩, _, _, rfl, rfl, by show 2 ≤ sizeLine; decide, fun ta na => ?_⟩
              generalize hG : upd G9 ta _ = Ga
              have qa : Same G9 Ga := hG ▸ same_new na
              have xa := (congrFun hG ta).symm.trans upd_same
              clear hG
              refine ⟨_, _, rfl, rfl, ⟨by decide, by decide, by decide⟩, _, _, rfl, rfl, _, rfl, _, _, rfl, rfl, _, _, rfl, rfl, ⟨by decide, by decide, by decide⟩, _, _, rfl, rfl, _, rfl, _, _, rfl, rfl, by show 2 ≤ sizeLine; decide, fun tb nb => ?_⟩
              generalize hG : upd Ga tb _ = Gb
              have qb : Same Ga Gb := hG ▸ same_new nb
              have xb := (congrFun hG tb).symm.trans upd_same
              clear hG
              refine ⟨by show 2 ≤ sizeLine; decide, fun Lc nc => ?_⟩
              generalize hG : upd Gb Lc _ = Gc
              have qc : Same Gb Gc := hG ▸ same_new nc
              have xc := (congrFun hG Lc).symm.trans upd_same
              clear hG
              refine catO (qc _ _ (qb _ _ (qa _ _ x9))) xc (by show 4 + 2 ≤ 1000000; decide) fun kc Gd qd nd xd => ?_
              have sd := s3.trans (q5.trans (q6.trans (q7.trans (q8.trans (q9.trans (qa.trans (qb.trans (qc.trans qd))))))))
              obtain ⟨x, hx, ex⟩ := atI_any (xs := [V.ref t5, .ref t6, .ref t7, .ref t8] ++ [V.ref ta, .ref tb]) (j := v21 % 8 - 2) (by omega) (by show v21 % 8 - 2 < 6; omega)
              have hk : ∃ kq l mo, x = V.ref kq ∧ Gd kq = some (.tup [.int l, optI mo]) ∧ areTimes l mo = false := by
                rcases List.mem_cons.mp hx with rfl | hx
                · exact ⟨t5, -1 - v23 % 1001, none, rfl, qd _ _ (qc _ _ (qb _ _ (qa _ _ (q9 _ _ (q8 _ _ (q7 _ _ (q6 _ _ x5))))))), lowT (by omega)⟩
                rcases List.mem_cons.mp hx with rfl | hx
                · exact ⟨t6, -1 - v23 % 1001, some (v23 % 1001), rfl, qd _ _ (qc _ _ (qb _ _ (qa _ _ (q9 _ _ (q8 _ _ (q7 _ _ x6)))))), lowT (by omega)⟩
                rcases List.mem_cons.mp hx with rfl | hx
                · exact ⟨t7, v23 % 1001 + 1, some (v23 % 1001), rfl, qd _ _ (qc _ _ (qb _ _ (qa _ _ (q9 _ _ (q8 _ _ x7))))), mostT (by omega)⟩
                rcases List.mem_cons.mp hx with rfl | hx
                · exact ⟨t8, 1000001, none, rfl, qd _ _ (qc _ _ (qb _ _ (qa _ _ (q9 _ _ x8)))), lowT (by omega)⟩
                rcases List.mem_cons.mp hx with rfl | hx
                · exact ⟨ta, v23 % 1001, some 1000001, rfl, qd _ _ (qc _ _ (qb _ _ xa)), mostT (by omega)⟩
                · rw [List.mem_singleton.mp hx]
                  exact ⟨tb, 1000001 + v23 % 1001, some (1000001 + v23 % 1001), rfl, qd _ _ (qc _ _ xb), lowT (by omega)⟩
              obtain ⟨kq, l, mo, rfl, hkq, hno⟩ := hk
              refine ⟨_, rfl, _, rfl, _, _, rfl, rfl, kc, _, _, _, rfl, rfl, SqL.of xd, ex, ?_⟩
              have hF' := sd
              refine ⟨_, rfl, _, rfl, kq, _, _, _, rfl, rfl, SqT.of hkq, atI_nat (j := 0) rfl, _, rfl, kq, _, _, _, rfl, rfl, SqT.of hkq, atI_nat (j := 1) rfl, by show 3 ≤ sizeLine; decide, fun te ne => ?_⟩
              generalize hG : upd Gd te _ = Ge
              have qe : Same Gd Ge := hG ▸ same_new ne
              have xe := (congrFun hG te).symm.trans upd_same
              clear hG
              exact ⟨sd.trans qe, qe _ _ ((q5.trans (q6.trans (q7.trans (q8.trans (q9.trans (qa.trans (qb.trans (qc.trans qd)))))))) _ _ hF), te, (((m : Nat) : Int), l, mo), _, _, _, _, rfl, SqT.of xe, ok_time_no hno⟩
            · exact ifF (decide_eq_false (by rw [nv_len]; omega)) ⟨s3, hF, q, s0', _, _, _, _, rfl, hq, hqn⟩
          · exact itN (show ¬ (1 : Int) < v21 % 8 by omega) (ifF rfl ⟨s3, hF, q, s0', _, _, _, _, rfl, hq, hqn⟩)
        clear hq hqn hF s3
        rintro σ H6 ⟨s3, hF, q, s0', u8, u9, u10, u11, rfl, hq, hqn⟩
        have hTd6 := s3.seq hTd
        refine ⟨_, rfl, _, rfl, _, rfl, slO hTd6 fun a G1 q1 _ ha => ?_⟩
        have ha : G1 a = some (.lst (cutV (ts.map V.ref) none (some ((n : Nat) : Int)))) := by rw [← hAn]; exact ha
        refine ⟨_, rfl, by show 1 ≤ sizeLine; decide, fun b n2 => ?_⟩
        generalize hG : upd G1 b _ = G2
        have q2 : Same G1 G2 := hG ▸ same_new n2
        have hb := (congrFun hG b).symm.trans upd_same
        clear hG
        refine catO (q2 _ _ ha) hb (by rw [cut_takeG, List.length_take, List.length_map, hTs.len]; show min n ss.length + 1 ≤ 1000000; omega) fun c G3 q3 n3 hc => ?_
        refine ⟨_, rfl, _, rfl, _, rfl, ?_⟩
        dsimp only [tNoPart]
        refine slO ((q1.trans (q2.trans q3)).seq hTd6) fun d G4 q4 _ hd => ?_
        have hd : G4 d = some (.lst (cutV (ts.map V.ref) (some ((n : Nat) : Int)) none)) := by rw [← hAn]; exact hd
        refine catO (q4 _ _ hc) hd (by rw [cut_takeG, cut_dropG, List.length_append, List.length_take, List.length_drop, List.length_map, hTs.len]; show min n ss.length + 1 + (ss.length - n) ≤ 1000000; omega) fun f G5 q5 n5 hf => ?_
        refine ⟨_, rfl, by show 2 ≤ sizeLine; decide, fun L n6 => ?_⟩
        generalize hG : upd G5 L _ = G6
        have q6 : Same G5 G6 := hG ▸ same_new n6
        have hL := (congrFun hG L).symm.trans upd_same
        clear hG
        have sz := q1.trans (q2.trans (q3.trans (q4.trans (q5.trans q6))))
        rw [cut_takeG, cut_dropG, ← List.map_take, ← List.map_drop] at hf
        have hf2 : G5 f = some (.lst ((ts.take n ++ q :: ts.drop n).map V.ref)) := by
          rw [hf, List.map_append, List.map_cons, List.append_assoc]; rfl
        have hL : G6 L = some (.lst [V.ref f, .int ((n : Nat) : Int)]) := by rw [← hAn]; exact hL
        refine k L f (ts.take n ++ q :: ts.drop n) n s0' G6 (s3.trans sz) hn hqn hL (q6 _ _ hf2) ?_
        have h6 : Tl (SqT K) G6 ts ss := hTs.imp fun t s z => (s3.trans sz).tup z
        exact (h6.take n).app ((Tl.one (sz.tup hq)).app (h6.drop n))
end
end My
set_option maxRecDepth 100000
set_option maxHeartbeats 8000000
set_option exponentiation.threshold 10000
namespace My
open PySem L2
/-- told spans as data -/
def optP : Option Int → PyData
  | none => .none
  | some i => .int i
abbrev pds (ss : List TSp) : List PyData := ss.map fun s => PyData.tuple [.int s.1, .int s.2.1, optP s.2.2]
theorem dp_v3 {K : PySem.W.Frag} {H : Hp} (s : TSp) : DpAll K H (v3 s) [.int s.1, .int s.2.1, optP s.2.2] := by
  obtain ⟨a, b, c⟩ := s
  cases c with
  | none => exact .cons (.int _) (.cons (.int _) (.cons .non .nil))
  | some i => exact .cons (.int _) (.cons (.int _) (.cons (.int _) .nil))
theorem dp_tl {K : PySem.W.Frag} {H : Hp} : ∀ {ts : List Addr} {ss : List TSp}, Tl (SqT K) H ts ss → DpAll K H (ts.map V.ref) (pds ss)
  | [], [], _ => .nil
  | [], _ :: _, h => nomatch h.len
  | _ :: _, [], h => nomatch h.len
  | t :: ts, s :: ss, h => .cons (.tup (h.at_ 0 t s rfl rfl) (dp_v3 s)) (dp_tl ⟨Nat.succ.inj h.len, fun i u x a b => h.at_ (i + 1) u x a b⟩)
theorem lay_pds : ∀ ss : List TSp, PyData.canLayAll0 (pds ss) = true
  | [] => by simp [PyData.canLayAll0]
  | s :: ss => layc (layT (layc (lay_int _) (layc (lay_int _) (layc (by cases s.2.2 <;> simp [optP, PyData.canLay0]) (by simp [PyData.canLayAll0]))))) (lay_pds ss)
theorem depth_pds : ∀ ss : List TSp, PyData.depthAll (pds ss) ≤ 3
  | [] => by simp [PyData.depthAll]
  | s :: ss => by
    have h1 : PyData.depthAll (ss.map fun s => PyData.tuple [.int s.1, .int s.2.1, optP s.2.2]) ≤ 3 := depth_pds ss
    have h2 : PyData.depth (optP s.2.2) ≤ 1 := by cases s.2.2 <;> simp [optP, PyData.depth]
    simp only [List.map_cons, PyData.depthAll, PyData.depth] at h1 ⊢
    omega
theorem shT_pds (ss : List TSp) : SeqAt.shaped (.tuple (pds ss)) = true := shapedT (lay_pds ss) (Nat.le_trans (depth_pds ss) (by decide))
theorem shL_pds (ss : List TSp) : SeqAt.shaped (.list (pds ss)) = true := shapedL (lay_pds ss) (Nat.le_trans (depth_pds ss) (by decide))
theorem fault_mid {cs : List Str} {rs : List (List Str)} {a c : List TSp} {b : TSp} (ok : ∀ s ∈ a, okSpan cs rs s = true) (hb : okSpan cs rs b = false) (hl : (a ++ b :: c).length ≤ 24) : spanFault cs rs (a ++ b :: c) = some a.length := by
  unfold spanFault
  rw [if_neg (by omega)]
  refine firstI_some (by rw [List.length_append, List.length_cons]; omega) ?_ fun j hj => ?_
  · rw [badSp_at (s := b) (by rw [List.getElem?_append_right (Nat.le_refl _), Nat.sub_self]; rfl), hb]; rfl
  · have e : (a ++ b :: c)[j]? = some a[j] := by rw [List.getElem?_append_left hj, List.getElem?_eq_getElem hj]
    rw [badSp_at e, ok _ (List.getElem_mem hj)]; rfl
theorem fault_many {cs : List Str} {rs : List (List Str)} {ss : List TSp} (h : 24 < ss.length) : spanFault cs rs ss = some 24 := by unfold spanFault; rw [if_pos h]
def Bd (K : PySem.W.Frag) (H : Hp) (cs : List Str) (rs : List (List Str)) (q : Addr) : Prop := ∃ L us ss, ∃ n : Nat, H q = some (.lst [.ref L, .int ((n : Nat) : Int)]) ∧ H L = some (.lst (us.map V.ref)) ∧ Tl (SqT K) H us ss ∧ ss.length ≤ 24 ∧ spanFault cs rs ss = some n
theorem Bd.same {K : PySem.W.Frag} {H H' : Hp} {cs : List Str} {rs : List (List Str)} {q : Addr} (h : Bd K H cs rs q) (s : Same H H') : Bd K H' cs rs q :=
  let ⟨L, us, ss, n, h1, h2, h3, h4, h5⟩ := h; ⟨L, us, ss, n, s _ _ h1, s _ _ h2, h3.imp fun t x z => s.tup z, h4, h5⟩
section
variable {P : Program} {w : World} {K : PySem.W.Frag} {mg : Str → Option Value} {base : Heap} {A : Ad}
def spBounds (K : PySem.W.Frag) (A : Ad) : Sp := fun vs H Q _ => ∃ tb r t p rts rs cs ts ss, ∃ ps : List Int, vs = [.ref tb, .ref r, .ref t, .ref p] ∧ Tb A.C_Table H tb cs rs ∧ SqL K H r (rts.map V.ref) ∧ LsA K H rts rs ∧ (∀ r ∈ rs, RowOk cs r) ∧ rs.length ≤ 48 ∧ SqL K H t (ts.map V.ref) ∧ Tl (SqT K) H ts ss ∧ ss.length ≤ 6 ∧ (∀ s ∈ ss, okSpan cs rs s = true) ∧ SqL K H p (ps.map V.int) ∧ ps.length = 60 ∧
  ∀ H', Same H H' → Q (.bl true) H'
theorem ok_bounds (T : Txt P K mg A) : FnOk P w K mg base CX0 8 A.a_law_bounds_right A.d_law_bounds_right ["table", "rows", "told", "pool"] (spBounds K A) := by
  have G_law_bad_spans := ok_bad (P := P) (w := w) (base := base) T
  have G_law_refused := ok_refused (P := P) (w := w) (base := base) T
  have G_law_is_number := ok_isNum (P := P) (w := w) (base := base) T
  have G_Spans_init := ok_spans (P := P) (w := w) (base := base) T
  refine T.F_law_bounds_right.ok sc_law_bounds_right (fun vs H Q E h => ?_) (fun cdv A' outer s H vs Q E hr h => ?_)
  · obtain ⟨tb, r, t, p, rts, rs, cs, ts, ss, ps, rfl, _⟩ := h
    rfl
  · obtain ⟨tb, r, t, p, rts, rs, cs, ts, ss, ps, rfl, hT, hR, hRs, hRow, hrl, hTd, hTs, hsl, hok, hP, hpl, k⟩ := h
    refine ⟨_, (pss_cons (ps_set (i := 4) sc_law_bounds_right.nd rfl (Or.inl rfl) (pe_call G_law_bad_spans (hr.mono (by decide)) rfl T.mg_law_bad_spans T.F_law_bad_spans.kp T.b_law_bad_spans .nil pass0 (pa_cons (pv 1) (pa_cons (pv 2) (pa_cons (pv 3) pa_nil)))))
      (pss_cons (ps_for PassesOwn.never rfl (pi_list (pe_lst (pa_cons (pv 4) (pa_cons (pe_lst (pa_cons (pe_op op_cat (pe_ix ix_list (pv 4) pe_int (fun _ _ => rfl)) (pe_lst (pa_cons (pe_tup (pa_cons (pe_callB call_len_seq (by rfl) T.n_len (by decide +kernel) (pa_cons (pv 1) pa_nil)) (pa_cons pe_int (pa_cons pe_non pa_nil)))) pa_nil))) (pa_cons (pe_ix ix_list (pv 4) pe_int (fun _ _ => rfl)) pa_nil))) (pa_cons (pe_lst (pa_cons (pe_op op_cat (pe_lst (pa_cons (pe_tup (pa_cons (pe_un un_neg pe_int) (pa_cons pe_int (pa_cons pe_int pa_nil)))) pa_nil)) (pe_ix ix_list (pv 4) pe_int (fun _ _ => rfl))) (pa_cons pe_int pa_nil))) pa_nil))))) (pg_name (i := 5) sc_law_bounds_right.nd rfl (Or.inl rfl))
        (pss_cons (ps_set (i := 6) sc_law_bounds_right.nd rfl (Or.inl rfl) (pe_call G_law_refused (hr.mono (by decide)) rfl T.mg_law_refused T.F_law_refused.kp T.b_law_refused .nil pass0 (pa_cons (pv 0) (pa_cons (pe_ix ix_list (pv 5) pe_int (fun _ _ => rfl)) pa_nil))))
      (pss_one (ps_if (pt_not (pt_val (pe_call G_law_is_number (hr.mono (by decide)) rfl T.mg_law_is_number T.F_law_is_number.kp T.b_law_is_number .nil pass0 (pa_cons (pv 6) (pa_cons (pe_ix ix_list (pv 5) pe_int (fun _ _ => rfl)) (pa_cons (pe_ix ix_list (pv 5) pe_int (fun _ _ => rfl)) pa_nil)))))) (pss_one (ps_ret pe_bl)) pss_nil))))
      (pss_cons (ps_setLc (i := 7) (own := [("i", 10)]) (g := gName 10) (tt := _) rfl sc_law_bounds_right.nd rfl rfl (sw_true rfl rfl rfl (by decide +kernel)) (pi_range1 (by rfl) T.n_range (pa_cons (pe_callB call_len_seq (by rfl) T.n_len (by decide +kernel) (pa_cons (pv 1) pa_nil)) pa_nil)) (blkOk_by (N := ["table", "rows", "told", "pool", "bad", "more", "index", "full", "number", "many", "i", "k", "span"]) (sc := defScope s_law_bounds_right) (by decide +kernel)) (fun _ _ _ _ _ => (pg_name (i := 10) sc_law_bounds_right.nd rfl (Or.inl rfl))) (fun _ _ _ _ _ => (pts_one (pt_cmpR op_gt (pe_callB (show CallR _ _ (rLen2 K) from call_len_seq) (by rfl) T.n_len (by decide +kernel) (pa_cons (pe_ix (show IxR _ (rIxL K) from ix_list) (pv 1) (pv 10) (fun _ _ => rfl)) pa_nil)) pe_int (nomark _)))) (fun _ _ _ _ _ => (pv 10)))
      (pss_cons (ps_if (pt_cmpR op_eq (pe_callB call_len_seq (by rfl) T.n_len (by decide +kernel) (pa_cons (pv 7) pa_nil)) pe_int (nomark _)) (pss_one (ps_ret pe_bl)) pss_nil)
      (pss_cons (ps_set (i := 8) sc_law_bounds_right.nd rfl (Or.inr rfl) (pe_ix ix_list (pv 7) (pe_op op_mod (pe_callTy call_int1 (by rfl) T.n_int (by decide +kernel) (pa_cons (pe_ix ix_list (pv 3) pe_int (fun _ _ => rfl)) pa_nil)) (pe_callB call_len_seq (by rfl) T.n_len (by decide +kernel) (pa_cons (pv 7) pa_nil))) (fun _ _ => rfl)))
      (pss_cons (ps_set (i := 9) sc_law_bounds_right.nd rfl (Or.inl rfl) (pe_op op_cat (pe_lc (own := [("k", 11)]) (g := gName 11) (tt := tYes) rfl sc_law_bounds_right.nd (pi_range1 (by rfl) T.n_range (pa_cons pe_int pa_nil)) (blkOk_by (N := ["table", "rows", "told", "pool", "bad", "more", "index", "full", "number", "many", "i", "k", "span"]) (sc := defScope s_law_bounds_right) (by decide +kernel)) (fun _ _ _ _ _ => (pg_name (i := 11) sc_law_bounds_right.nd rfl (Or.inl rfl))) (fun _ _ _ _ _ => pts_nil) (fun _ _ _ _ _ => (pe_tup (pa_cons (pv 8) (pa_cons (pe_op op_mod (pe_callTy call_int1 (by rfl) T.n_int (by decide +kernel) (pa_cons (pe_ix (show IxR _ (rIxL K) from ix_list) (pv 3) pe_int (fun _ _ => rfl)) pa_nil)) pe_int) (pa_cons (pe_op op_pow pe_int pe_int) pa_nil)))))) (pe_lst (pa_cons (pe_tup (pa_cons (pv 8) (pa_cons (pe_op op_pow pe_int pe_int) (pa_cons (pe_op op_pow pe_int pe_int) pa_nil)))) pa_nil))))
      (pss_cons (ps_if (pt_cmpR (op_neD hr.units) (pe_fld (pe_make T.mk_Spans G_Spans_init (hr.mono (by decide)) rfl T.mg_Spans T.b_Spans_init .nil pass0 (pa_cons (pv 0) (pa_cons (pe_lc (own := [("span", 12)]) (g := gName 12) (tt := tYes) rfl sc_law_bounds_right.nd (pi_list (pv 9)) (blkOk_by (N := ["table", "rows", "told", "pool", "bad", "more", "index", "full", "number", "many", "i", "k", "span"]) (sc := defScope s_law_bounds_right) (by decide +kernel)) (fun _ _ _ _ _ => (pg_name (i := 12) sc_law_bounds_right.nd rfl (Or.inl rfl))) (fun _ _ _ _ _ => pts_nil) (fun _ _ _ _ _ => (pe_callTy (show CallR _ _ (rListOf K) from call_list_of) (by rfl) T.n_list (by decide +kernel) (pa_cons (pv 12) pa_nil)))) pa_nil))) rfl) (pe_callTy (show CallR _ _ (rTupOf K) from call_tuple_of) (by rfl) T.n_tuple (by decide +kernel) (pa_cons (pv 9) pa_nil)) (nomark _)) (pss_one (ps_ret pe_bl)) pss_nil)
      (pss_cons (ps_set (i := 6) sc_law_bounds_right.nd rfl (Or.inl rfl) (pe_call G_law_refused (hr.mono (by decide)) rfl T.mg_law_refused T.F_law_refused.kp T.b_law_refused .nil pass0 (pa_cons (pv 0) (pa_cons (pe_op op_cat (pe_slice sl_list (pe_ix ix_list (pv 4) pe_int (fun _ _ => rfl)) po_none (po_some pe_int)) (pv 9)) pa_nil))))
      (pss_one (ps_ret (pe_call G_law_is_number (hr.mono (by decide)) rfl T.mg_law_is_number T.F_law_is_number.kp T.b_law_is_number .nil pass0 (pa_cons (pv 6) (pa_cons pe_int (pa_cons pe_int pa_nil)))))))))))))), ?_⟩
    refine ⟨_, rfl, _, rfl, _, rfl, r, t, p, rts, rs, cs, ts, ss, ps, rfl, hR, hRs, hRow, hrl, hTd, hTs, hsl, hP, hpl, fun B L us n s0 H1 s1 hn hs0 hB hL hus => ?_⟩
    have htl : (ss.take n).length = n := by rw [List.length_take]; omega
    have hdl : (ss.drop n).length ≤ 6 := by rw [List.length_drop]; omega
    have okt : ∀ s ∈ ss.take n, okSpan cs rs s = true := fun s h => hok s (List.mem_of_mem_take h)
    have bB : Bd K H1 cs rs B := ⟨L, us, _, n, hB, hL, hus, by rw [List.length_append, List.length_cons, htl]; omega, by rw [fault_mid okt hs0 (by rw [List.length_append, List.length_cons, htl]; omega), htl]⟩
    have a0 : atI [V.ref L, .int ((n : Nat) : Int)] 0 = some (V.ref L) := atI_nat (j := 0) rfl
    have a1 : atI [V.ref L, .int ((n : Nat) : Int)] 1 = some (V.int ((n : Nat) : Int)) := atI_nat (j := 1) rfl
    have lus : us.length ≤ 7 := by rw [hus.len, List.length_append, List.length_cons, htl, List.length_drop]; omega
    refine ⟨_, rfl, _, rfl, B, _, _, _, rfl, rfl, SqL.of hB, a0, _, rfl, r, _, rfl, .inl (s1.seq hR), by show 3 ≤ sizeLine; decide, fun t1 n1 => ?_⟩
    generalize hG : upd H1 t1 _ = G1
    have q1 : Same H1 G1 := hG ▸ same_new n1
    have x1 := (congrFun hG t1).symm.trans upd_same
    clear hG
    refine ⟨by show 1 ≤ sizeLine; decide, fun l1 n2 => ?_⟩
    generalize hG : upd G1 l1 _ = G2
    have q2 : Same G1 G2 := hG ▸ same_new n2
    have x2 := (congrFun hG l1).symm.trans upd_same
    clear hG
    refine catO (q2 _ _ (q1 _ _ hL)) x2 (by rw [List.length_map]; show us.length + 1 ≤ 1000000; omega) fun c1 G3 q3 n3 x3 => ?_
    have q13 := q1.trans (q2.trans q3)
    refine ⟨_, rfl, B, _, _, _, rfl, rfl, SqL.of (q13 _ _ hB), a1, by show 2 ≤ sizeLine; decide, fun B2 n4 => ?_⟩
    generalize hG : upd G3 B2 _ = G4
    have q4 : Same G3 G4 := hG ▸ same_new n4
    have x4 := (congrFun hG B2).symm.trans upd_same
    clear hG
    have bB2 : Bd K G4 cs rs B2 := ⟨c1, us ++ [t1], (ss.take n ++ s0 :: ss.drop n) ++ [(((rts.map V.ref).length : Int), 0, none)], n, x4, by rw [q4 _ _ x3, List.map_append]; rfl,
      (hus.imp fun t x z => (q13.trans q4).tup z).app (Tl.one (SqT.of (q4 _ _ (q3 _ _ (q2 _ _ x1))))), by rw [List.length_append, List.length_append, List.length_cons, htl]; show n + (_ + 1) + 1 ≤ 24; omega, by rw [List.append_assoc, List.cons_append, fault_mid okt hs0 (by rw [List.length_append, List.length_cons, List.length_append, htl]; show n + (_ + 1 + 1) ≤ 24; omega), htl]⟩
    refine ⟨_, rfl, by show 3 ≤ sizeLine; decide, fun t2 n5 => ?_⟩
    generalize hG : upd G4 t2 _ = G5
    have q5 : Same G4 G5 := hG ▸ same_new n5
    have x5 := (congrFun hG t2).symm.trans upd_same
    clear hG
    refine ⟨by show 1 ≤ sizeLine; decide, fun l2 n6 => ?_⟩
    generalize hG : upd G5 l2 _ = G6
    have q6 : Same G5 G6 := hG ▸ same_new n6
    have x6 := (congrFun hG l2).symm.trans upd_same
    clear hG
    have q16 := q13.trans (q4.trans (q5.trans q6))
    refine ⟨_, rfl, B, _, _, _, rfl, rfl, SqL.of (q16 _ _ hB), a0, catO x6 (q16 _ _ hL) (by rw [List.length_map]; show 1 + us.length ≤ 1000000; omega) fun c2 G7 q7 n7 x7 => ?_⟩
    refine ⟨by show 2 ≤ sizeLine; decide, fun B3 n8 => ?_⟩
    generalize hG : upd G7 B3 _ = G8
    have q8 : Same G7 G8 := hG ▸ same_new n8
    have x8 := (congrFun hG B3).symm.trans upd_same
    clear hG
    have q18 := q16.trans (q7.trans q8)
    have bB3 : Bd K G8 cs rs B3 := ⟨c2, t2 :: us, (-1, 3, some 2) :: (ss.take n ++ s0 :: ss.drop n), 0, x8, q8 _ _ x7,
      (Tl.one (SqT.of (q8 _ _ (q7 _ _ (q6 _ _ x5))))).app (hus.imp fun t x z => q18.tup z), by rw [List.length_cons, List.length_append, List.length_cons, htl]; omega, fault_mid (a := []) (fun s h => nomatch h) (ok_no (by omega)) (by rw [List.nil_append, List.length_cons, List.length_append, List.length_cons, htl]; omega)⟩
    refine ⟨by show 3 ≤ sizeLine; decide, fun L3 n9 => ?_⟩
    generalize hG : upd G8 L3 _ = G9
    have q9 : Same G8 G9 := hG ▸ same_new n9
    have x9 := (congrFun hG L3).symm.trans upd_same
    clear hG
    have s9 := s1.trans (q18.trans q9)
    have hall : ∀ q ∈ [B, B2, B3], Bd K G9 cs rs q := by
      intro q hq
      rcases List.mem_cons.mp hq with rfl | hq
      · exact bB.same (q18.trans q9)
      rcases List.mem_cons.mp hq with rfl | hq
      · exact bB2.same (q5.trans (q6.trans (q7.trans (q8.trans q9))))
      rw [List.mem_singleton.mp hq]
      exact bB3.same q9
    have hB9 := (q18.trans q9) _ _ hB
    have hL9 := (q18.trans q9) _ _ hL
    have hus9 := hus.imp fun t x z => (q18.trans q9).tup z
    clear q1 q2 q3 q4 q5 q6 q7 q8 q9 q13 q16 q18 bB bB2 bB3 x1 x2 x3 x4 x5 x6 x7 x8
    refine ⟨L3, rfl, ⟨_, SqL.of x9⟩, for_it walk_list (fun i σ H2 => Same G9 H2 ∧ ∃ u5 u6 : Option V, σ = [some (.ref tb), some (.ref r), some (.ref t), some (.ref p), some (.ref B), u5, u6, none, none, none, none, none, none]) ⟨Same.refl _, none, none, rfl⟩ (fun i σ H2 _ q => q.1.seq (SqL.of x9)) ?_ ?_⟩
    · rintro i x σ H20 H2 hi ⟨sm, u5, u6, rfl⟩ ⟨rfl, hx⟩
      obtain ⟨q, hq, rfl⟩ := refs_get (ts := [B, B2, B3]) hx
      obtain ⟨M, vs, zz, m, b1, b2, b3, b4, b5⟩ := (hall q (List.mem_of_getElem? hq)).same sm
      have c0 : atI [V.ref M, .int ((m : Nat) : Int)] 0 = some (V.ref M) := atI_nat (j := 0) rfl
      have c1 : atI [V.ref M, .int ((m : Nat) : Int)] 1 = some (V.int ((m : Nat) : Int)) := atI_nat (j := 1) rfl
      refine ⟨_, rfl, _, rfl, q, _, _, _, rfl, rfl, SqL.of b1, c0, tb, M, cs, rs, vs, zz, m, rfl, hT.same (s9.trans sm), hrl, SqL.of b2, b3.imp (fun t x z => .inr z), by omega, b5, fun H3 s3 => ?_⟩
      refine ⟨_, rfl, _, rfl, q, _, _, _, rfl, rfl, SqL.of (s3 _ _ b1), c1, _, rfl, q, _, _, _, rfl, rfl, SqL.of (s3 _ _ b1), c1, (m : Int), (m : Int), (m : Int), rfl, ?_⟩
      rw [decide_eq_true (show (m : Int) ≤ m ∧ (m : Int) ≤ m from ⟨Int.le_refl _, Int.le_refl _⟩)]
      exact ⟨_, rfl, ifF rfl ⟨sm.trans s3, _, _, rfl⟩⟩
    · rintro σ H2 ⟨sm, u5, u6, rfl⟩
      have s2 := s9.trans sm
      have hB2 := sm _ _ hB9
      have hL2 := sm _ _ hL9
      have hus2 := hus9.imp fun t x z => sm.tup z
      clear hB9 hL9 hus9 hall s9 sm x9
      have e1F : (((rts.map V.ref).length : Nat) : Int).toNat = rs.length := by rw [List.length_map, hRs.len, Int.toNat_natCast]
      refine ⟨_, rfl, r, _, rfl, .inl (s2.seq hR), _, rfl, by rw [List.length_map, hRs.len]; omega, by rw [List.length_map, hRs.len]; omega, fun F hF => lc_range (n := (((rts.map V.ref).length : Nat) : Int).toNat) (PvS H2 F fun i => nv ((List.range i).filter (fun i => decide (0 < (rs.getD i []).length)))) (pv0 hF rfl) ?_ ?_⟩
      · rintro i H3 hi q
        rw [e1F] at hi
        obtain ⟨t, r1, et, er1, atr, ho⟩ := row_at hRs hi
        have hg : (rs.getD i []) = r1 := by rw [List.getD_eq_getElem?_getD, er1]; rfl
        have ei : ((0 : Int) + (i : Int)) = ((i : Nat) : Int) := by omega
        rw [ei]
        refine ⟨rfl, _, rfl, _, rfl, r, _, _, _, rfl, rfl, q.1.seq (s2.seq hR), atr, t, _, rfl, q.1.sqa (s2.sqa ho), _, _, rfl, rfl, _, rfl, ?_⟩
        by_cases hb : 0 < r1.length
        · exact itY (by rw [len_sv]; omega) ⟨_, rfl, q.push hF (filt_T (f := fun i => decide (0 < (rs.getD i []).length)) (by rw [hg]; exact decide_eq_true hb)) (filt_len (by omega))⟩
        · exact itN (by rw [len_sv]; omega) (q.skip (filt_F (f := fun i => decide (0 < (rs.getD i []).length)) (by rw [hg]; exact decide_eq_false hb)))
      · rintro H3 ⟨s3, h3⟩
        rw [e1F] at h3
        have h3 : H3 F = some (.lst (nv (full rs))) := h3
        have s3 := s2.trans s3
        refine ⟨_, rfl, F, _, rfl, .inl (SqL.of h3), rfl, _, rfl, ?_⟩
        rw [nv_len]
        by_cases h0 : full rs = []
        · exact ifT (iEq (by rw [h0]; rfl)) (k _ s3)
        have hpos : 0 < (full rs).length := List.length_pos_iff.mpr h0
        refine ifF (iNe (by omega)) ?_
        obtain ⟨v, _, e24⟩ := atI_ok (xs := ps) (j := 24) (by omega) (by omega)
        obtain ⟨v5, _, e25⟩ := atI_ok (xs := ps) (j := 25) (by omega) (by omega)
        have lF : ((nv (full rs)).length : Int) = ((full rs).length : Int) := by rw [nv_len]
        have m0 := Int.emod_nonneg v (show (((full rs).length : Nat) : Int) ≠ 0 by omega)
        have m1 := Int.emod_lt_of_pos v (show (0 : Int) < (((full rs).length : Nat) : Int) by omega)
        obtain ⟨j, hj⟩ := Int.eq_ofNat_of_zero_le m0
        have hjl : j < (full rs).length := by omega
        have hm := List.getElem_mem hjl
        have en : atI (nv (full rs)) ((j : Nat) : Int) = some (V.int (((full rs)[j] : Nat) : Int)) := atI_nat (by rw [List.getElem?_map, List.getElem?_eq_getElem hjl]; rfl)
        generalize (full rs)[j] = m at hm en
        refine ⟨_, rfl, _, rfl, p, _, _, _, rfl, rfl, s3.seq hP, e24, .inl ⟨_, rfl, _, rfl, F, _, rfl, .inl (SqL.of h3), _, _, rfl, rfl, by rw [lF]; omega, F, _, _, _, rfl, rfl, SqL.of h3, by rw [lF, hj]; exact en, ?_⟩⟩
        have a5 := Int.emod_nonneg v5 (show (1001 : Int) ≠ 0 by decide)
        have b5 := Int.emod_lt_of_pos v5 (show (0 : Int) < 1001 by decide)
        have ok1 : okSpan cs rs (((m : Nat) : Int), v5 % 1001, some 1000000) = true := okSpan_of hRow hm a5 (by omega) (decide_eq_true (by omega))
        have ok2 : okSpan cs rs (((m : Nat) : Int), 1000000, some 1000000) = true := okSpan_of hRow hm (by omega) (by omega) rfl
        refine ⟨23, rfl, by decide, by decide, fun D hD => lc_range (n := (23 : Int).toNat) (fun i G => Same H3 G ∧ ∃ us : List Addr, G D = some (.lst (us.map V.ref)) ∧ Tl (SqT K) G us (List.replicate i (((m : Nat) : Int), v5 % 1001, some 1000000))) ⟨same_new hD, [], upd_same, Tl.nil⟩ ?_ ?_⟩
        · rintro i G hi ⟨sG, ws, hDG, hws⟩
          have hi : i < 23 := hi
          refine ⟨rfl, _, rfl, _, rfl, p, _, _, _, rfl, rfl, (s3.trans sG).seq hP, e25, .inl ⟨_, rfl, _, _, rfl, rfl, by show (0 : Int) < 1001; decide, _, _, rfl, rfl, ⟨by decide, by decide, by decide⟩, by show 3 ≤ sizeLine; decide, fun t1 n1 => ?_⟩⟩
          generalize hG : upd G t1 _ = G1
          have q1 : Same G G1 := hG ▸ same_new n1
          have x1 := (congrFun hG t1).symm.trans upd_same
          clear hG
          have hD1 := q1 _ _ hDG
          refine ⟨_, hD1, small_int (by rw [List.length_map, hws.len, List.length_replicate]; omega), fun b o e => by rw [upd_ne (ne_of_none e hD)]; exact q1 _ _ (sG _ _ e), ws ++ [t1], by rw [List.map_append]; exact upd_same, ?_⟩
          rw [List.replicate_succ']
          exact ((hws.imp fun t s z => q1.tup z).app (Tl.one (SqT.of x1))).imp fun t s q => sqt_updL q hD1
        rintro G ⟨sG, ws, hDG, hws⟩
        have hws : Tl (SqT K) G ws (List.replicate 23 (((m : Nat) : Int), v5 % 1001, some 1000000)) := hws
        refine ⟨_, rfl, _, _, rfl, rfl, ⟨by decide, by decide, by decide⟩, _, _, rfl, rfl, ⟨by decide, by decide, by decide⟩, by show 3 ≤ sizeLine; decide, fun t1 n1 => ?_⟩
        generalize hG : upd G t1 _ = G1
        have q1 : Same G G1 := hG ▸ same_new n1
        have x1 := (congrFun hG t1).symm.trans upd_same
        clear hG
        refine ⟨by show 1 ≤ sizeLine; decide, fun l1 n2 => ?_⟩
        generalize hG : upd G1 l1 _ = G2
        have q2 : Same G1 G2 := hG ▸ same_new n2
        have x2 := (congrFun hG l1).symm.trans upd_same
        clear hG
        refine catO (q2 _ _ (q1 _ _ hDG)) x2 (by rw [List.length_map, hws.len]; show 23 + 1 ≤ 1000000; decide) fun M G3 q3 n3 x3 => ?_
        have q13 := q1.trans (q2.trans q3)
        obtain ⟨zz, ezz⟩ : ∃ zz : List TSp, zz = List.replicate 23 (((m : Nat) : Int), v5 % 1001, some 1000000) ++ [(((m : Nat) : Int), 1000000, some 1000000)] := ⟨_, rfl⟩
        have hM : G3 M = some (.lst ((ws ++ [t1]).map V.ref)) := by rw [x3, List.map_append]; rfl
        have hMt : Tl (SqT K) G3 (ws ++ [t1]) zz := by
          rw [ezz]
          exact (hws.imp fun t s z => q13.tup z).app (Tl.one (SqT.of (q3 _ _ (q2 _ _ x1))))
        have zl : zz.length = 24 := by rw [ezz]; rfl
        have okz : ∀ s ∈ zz, okSpan cs rs s = true := fun s hs => by
          rw [ezz] at hs
          rcases List.mem_append.mp hs with h | h
          · rw [(List.mem_replicate.mp h).2]; exact ok1
          · rw [List.mem_singleton.mp h]; exact ok2
        clear ezz hDG hws x1 x2 x3
        generalize ws ++ [t1] = ws2 at hM hMt
        have s4 := s3.trans (sG.trans q13)
        refine ⟨_, rfl, _, rfl, M, rfl, ⟨_, SqL.of hM⟩, fun D2 hD2 => lc_it walk_list (fun i G => Same G3 G ∧ ∃ us : List Addr, G D2 = some (.lst (us.map V.ref)) ∧ Tl (fun H a xs => H a = some (.lst xs) ∧ a ≠ D2) G us (zz.take i)) ⟨same_new hD2, [], upd_same, Tl.nil⟩ (fun i G _ q => q.1.seq (SqL.of hM)) ?_ ?_⟩
        · rintro i x G0 G hi ⟨sG2, us2, hDG2, hus2'⟩ ⟨rfl, hx⟩
          obtain ⟨b, hb, rfl⟩ := refs_get hx
          obtain ⟨y, hy, ho⟩ := hMt.get hb
          refine ⟨rfl, _, rfl, b, _, rfl, .inr (sG2.tup ho), fun l3 n5 => ?_⟩
          generalize hG : upd G l3 _ = G5
          have q5 : Same G G5 := hG ▸ same_new n5
          have x5 := (congrFun hG l3).symm.trans upd_same
          clear hG
          have hne : l3 ≠ D2 := (ne_of_none hDG2 n5).symm
          refine ⟨_, q5 _ _ hDG2, small_int (by rw [List.length_map, hus2'.len, List.length_take]; omega), fun b o e => by rw [upd_ne (ne_of_none e hD2)]; exact q5 _ _ (sG2 _ _ e), us2 ++ [l3], by rw [List.map_append]; exact upd_same, ?_⟩
          rw [take_succ hy]
          refine (((hus2'.imp (sq' := fun H a xs => H a = some (.lst xs) ∧ a ≠ D2) fun t s z => ⟨q5 _ _ z.1, z.2⟩).app (Tl.one ⟨x5, hne⟩))).imp fun t s z => ⟨by rw [upd_ne z.2]; exact z.1, z.2⟩
        rintro G ⟨sG2, us2, hDG2, hus2'⟩
        rw [List.length_map, hMt.len, List.take_length] at hus2'
        refine fun x dx hx hdx hne => mk_spans (hT.same (s4.trans sG2)) hrl (SqL.of hDG2) (hus2'.imp fun t s z => .inl (SqL.of z.1)) (by omega) okz hx hdx hne fun G6 s6 hS => ?_
        obtain ⟨dx6, ut, us6, h1, _, hu, hus6⟩ := hS
        refine ⟨rfl, _, _, _, _, _, rfl, h1, T.cl_Spans, T.n_Spans_told, fldsS_told _ _, _, rfl, ?_⟩
        dsimp only [tNil]
        refine tupO (K := K) (.inl (SqL.of (s6 _ _ (sG2 _ _ hM)))) fun a G7 s7 ha => ?_
        refine ⟨.tuple (pds zz), .tuple (pds zz), .tup (SqT.of (s7 _ _ hu)) (dp_tl (hus6.imp fun t s z => s7.tup z)), .tup ha (dp_tl (hMt.imp fun t s z => (sG2.trans (s6.trans s7)).tup z)), shT_pds _, shT_pds _, _, rfl, ifF (by rw [eqvT (lay_pds _)]; rfl) ?_⟩
        have s37 := sG2.trans (s6.trans s7)
        have q8 := sG.trans (q13.trans s37)
        have s8 := s3.trans q8
        have hB8 := q8 _ _ (‹Same H2 H3› _ _ hB2)
        have hL8 := q8 _ _ (‹Same H2 H3› _ _ hL2)
        refine ⟨_, rfl, _, rfl, B, _, _, _, rfl, rfl, SqL.of hB8, a0, _, rfl, slO (SqL.of hL8) fun c G9 q9 _ hc => ?_⟩
        have hc : G9 c = some (.lst ((us.take 1).map V.ref)) := by
          rw [hc, show (1 : Int) = ((1 : Nat) : Int) from rfl, cut_takeG, List.map_take]
        have hM9 := q9 _ _ (s37 _ _ hM)
        refine ⟨_, rfl, catO hc hM9 (by rw [List.length_map, List.length_map, hMt.len, zl, List.length_take]; omega) fun d Gd qd nd xd => ?_⟩
        have sd := q9.trans qd
        have hus9 : Tl (SqT K) Gd us (ss.take n ++ s0 :: ss.drop n) := hus2.imp fun t s z => ((‹Same H2 H3›.trans q8).trans sd).tup z
        have hall9 : Tl (SqT K) Gd (us.take 1 ++ ws2) ((ss.take n ++ s0 :: ss.drop n).take 1 ++ zz) := (hus9.take 1).app (hMt.imp fun t s z => (s37.trans sd).tup z)
        have l25 : ((ss.take n ++ s0 :: ss.drop n).take 1 ++ zz).length = 25 := by
          rw [List.length_append, zl, List.length_take, List.length_append, List.length_cons]; omega
        refine ⟨tb, d, cs, rs, us.take 1 ++ ws2, _, 24, rfl, hT.same (s8.trans sd), hrl, SqL.of (by rw [xd, List.map_append]), hall9.imp (fun t s z => .inr z), by rw [l25]; decide, fault_many (by rw [l25]; decide), fun Ge se => ?_⟩
        exact ⟨_, rfl, (24 : Int), (24 : Int), (24 : Int), rfl, k _ (s8.trans (sd.trans se))⟩
end
end My
set_option maxRecDepth 100000
set_option maxHeartbeats 8000000
set_option exponentiation.threshold 10000
namespace My
open PySem L2
section
variable {P : Program} {w : World} {K : PySem.W.Frag} {mg : Str → Option Value} {base : Heap} {A : Ad}
/-- a pair of lists, an order and years -/
def Pr (H : Hp) (q : Addr) : Prop := ∃ o y n m, H q = some (.lst [.ref o, .ref y]) ∧ GLn H o n ∧ GI H y m ∧ n ≤ 1000 ∧ m ≤ 1000
theorem Pr.same {H H' : Hp} {q : Addr} (h : Pr H q) (s : Same H H') : Pr H' q := let ⟨o, y, n, m, h1, h2, h3, h4⟩ := h; ⟨o, y, n, m, s _ _ h1, h2.same s, h3.same s, h4⟩
def spMany (K : PySem.W.Frag) (A : Ad) : Sp := fun vs H Q _ => ∃ tb n r t l rts rs cs ts ss hi ye od lo, vs = [.ref tb, .ref n, .ref r, .ref t, .ref l] ∧ Tb A.C_Table H tb cs rs ∧ SqL K H n (sv cs) ∧ ColsOk cs ∧ SqL K H r (rts.map V.ref) ∧ LsA K H rts rs ∧ (∀ r ∈ rs, RowOk cs r) ∧ rs.length ≤ 48 ∧ H t = some (.lst (ts.map V.ref)) ∧ Tl (SqT K) H ts ss ∧ ss.length ≤ 6 ∧ (∀ s ∈ ss, okSpan cs rs s = true) ∧
  H l = some (.lst [.ref hi, .ref ye, .ref od, .ref lo]) ∧ GLn H hi 40 ∧ GI H ye 40 ∧ GLn H od 40 ∧ GI H lo 40 ∧ ∀ H', Same H H' → Q (.bl true) H'
theorem ok_many (T : Txt P K mg A) : FnOk P w K mg base CX0 12 A.a_law_many_right A.d_law_many_right ["table", "names", "rows", "told", "lists"] (spMany K A) := by
  have G_law_due := ok_due (P := P) (w := w) (base := base) T
  have G_law_checked := ok_checked (P := P) (w := w) (base := base) T
  have G_law_is_number := ok_isNum (P := P) (w := w) (base := base) T
  have G_Spans_init := ok_spans (P := P) (w := w) (base := base) T
  refine T.F_law_many_right.ok sc_law_many_right (fun vs H Q E h => ?_) (fun cdv A' outer s H vs Q E hr h => ?_)
  · obtain ⟨tb, n, r, t, l, rts, rs, cs, ts, ss, hi, ye, od, lo, rfl, _⟩ := h
    rfl
  · obtain ⟨tb, n, r, t, l, rts, rs, cs, ts, ss, hi, ye, od, lo, rfl, hT, hN, okc, hR, hRs, hRow, hrl, hTd, hTs, hsl, hok, hL, gh, gy, go, gl, k⟩ := h
    refine ⟨_, (pss_cons (ps_set (i := 5) sc_law_many_right.nd rfl (Or.inr rfl) (pe_lc (own := [("i", 11)]) (g := gName 11) (tt := _) rfl sc_law_many_right.nd (pi_range1 (by rfl) T.n_range (pa_cons (pe_callB call_len_seq (by rfl) T.n_len (by decide +kernel) (pa_cons (pv 2) pa_nil)) pa_nil)) (blkOk_by (N := ["table", "names", "rows", "told", "lists", "full", "longer", "spans", "pair", "due", "found", "i", "k"]) (sc := defScope s_law_many_right) (by decide +kernel)) (fun _ _ _ _ _ => (pg_name (i := 11) sc_law_many_right.nd rfl (Or.inl rfl))) (fun _ _ _ _ _ => (pts_one (pt_cmpR op_gt (pe_callB (show CallR _ _ (rLen2 K) from call_len_seq) (by rfl) T.n_len (by decide +kernel) (pa_cons (pe_ix (show IxR _ (rIxL K) from ix_list) (pv 2) (pv 11) (fun _ _ => rfl)) pa_nil)) pe_int (nomark _)))) (fun _ _ _ _ _ => (pv 11))))
      (pss_cons (ps_if (pt_cmpR op_eq (pe_callB call_len_seq (by rfl) T.n_len (by decide +kernel) (pa_cons (pv 5) pa_nil)) pe_int (nomark _)) (pss_one (ps_ret pe_bl)) pss_nil)
      (pss_cons (ps_set (i := 6) sc_law_many_right.nd rfl (Or.inl rfl) (pe_op op_cat (pe_lc (own := [("k", 12)]) (g := gName 12) (tt := tYes) rfl sc_law_many_right.nd (pi_range1 (by rfl) T.n_range (pa_cons (pe_op op_sub pe_int (pe_callB call_len_seq (by rfl) T.n_len (by decide +kernel) (pa_cons (pv 3) pa_nil))) pa_nil)) (blkOk_by (N := ["table", "names", "rows", "told", "lists", "full", "longer", "spans", "pair", "due", "found", "i", "k"]) (sc := defScope s_law_many_right) (by decide +kernel)) (fun _ _ _ _ _ => (pg_name (i := 12) sc_law_many_right.nd rfl (Or.inl rfl))) (fun _ _ _ _ _ => pts_nil) (fun _ _ _ _ _ => (pe_tup (pa_cons (pe_ix (show IxR _ (rIxL K) from ix_list) (pv 5) pe_int (fun _ _ => rfl)) (pa_cons pe_int (pa_cons pe_non pa_nil)))))) (pv 3)))
      (pss_cons (ps_set (i := 7) sc_law_many_right.nd rfl (Or.inl rfl) (pe_make T.mk_Spans G_Spans_init (hr.mono (by decide)) rfl T.mg_Spans T.b_Spans_init .nil pass0 (pa_cons (pv 0) (pa_cons (pv 6) pa_nil))))
      (pss_cons (ps_for PassesOwn.never rfl (pi_list (pe_lst (pa_cons (pe_lst (pa_cons (pe_ix ix_list (pv 4) pe_int (fun _ _ => rfl)) (pa_cons (pe_ix ix_list (pv 4) pe_int (fun _ _ => rfl)) pa_nil))) (pa_cons (pe_lst (pa_cons (pe_ix ix_list (pv 4) pe_int (fun _ _ => rfl)) (pa_cons (pe_ix ix_list (pv 4) pe_int (fun _ _ => rfl)) pa_nil))) (pa_cons (pe_lst (pa_cons (pe_ix ix_list (pv 4) pe_int (fun _ _ => rfl)) (pa_cons (pe_ix ix_list (pv 4) pe_int (fun _ _ => rfl)) pa_nil))) pa_nil))))) (pg_name (i := 8) sc_law_many_right.nd rfl (Or.inl rfl))
        (pss_cons (ps_set (i := 9) sc_law_many_right.nd rfl (Or.inl rfl) (pe_call G_law_due (hr.mono (by decide)) rfl T.mg_law_due T.F_law_due.kp T.b_law_due .nil pass0 (pa_cons (pv 1) (pa_cons (pv 2) (pa_cons (pv 6) (pa_cons (pe_ix ix_list (pv 8) pe_int (fun _ _ => rfl)) (pa_cons (pe_ix ix_list (pv 8) pe_int (fun _ _ => rfl)) pa_nil)))))))
      (pss_cons (ps_set (i := 10) sc_law_many_right.nd rfl (Or.inl rfl) (pe_call G_law_checked (hr.mono (by decide)) rfl T.mg_law_checked T.F_law_checked.kp T.b_law_checked .nil pass0 (pa_cons (pv 7) (pa_cons (pe_ix ix_list (pv 8) pe_int (fun _ _ => rfl)) (pa_cons (pe_ix ix_list (pv 8) pe_int (fun _ _ => rfl)) pa_nil)))))
      (pss_one (ps_if (PW.pt (pw_or (pt_cmpR op_ne (pe_ix ix_tup (pv 10) pe_int (fun _ _ => rfl)) (pe_ix ix_tup (pv 9) pe_int (fun _ _ => rfl)) (nomark _)) (pw_or1 (pt_not (pt_val (pe_call G_law_is_number (hr.mono (by decide)) rfl T.mg_law_is_number T.F_law_is_number.kp T.b_law_is_number .nil pass0 (pa_cons (pe_ix ix_tup (pv 10) pe_int (fun _ _ => rfl)) (pa_cons (pe_ix ix_tup (pv 9) pe_int (fun _ _ => rfl)) (pa_cons (pe_ix ix_tup (pv 9) pe_int (fun _ _ => rfl)) pa_nil))))))))) (pss_one (ps_ret pe_bl)) pss_nil)))))
      (pss_one (ps_ret pe_bl))))))), ?_⟩
    have s0 : Same H H := Same.refl _
    have e1F : (((rts.map V.ref).length : Nat) : Int).toNat = rs.length := by rw [List.length_map, hRs.len, Int.toNat_natCast]
    refine ⟨_, rfl, r, _, rfl, .inl (s0.seq hR), _, rfl, by rw [List.length_map, hRs.len]; omega, by rw [List.length_map, hRs.len]; omega, fun F hF => lc_range (n := (((rts.map V.ref).length : Nat) : Int).toNat) (PvS H F fun i => nv ((List.range i).filter (fun i => decide (0 < (rs.getD i []).length)))) (pv0 hF rfl) ?_ ?_⟩
    · rintro i H3 hi q
      rw [e1F] at hi
      obtain ⟨t, r1, et, er1, atr, ho⟩ := row_at hRs hi
      have hg : (rs.getD i []) = r1 := by rw [List.getD_eq_getElem?_getD, er1]; rfl
      have ei : ((0 : Int) + (i : Int)) = ((i : Nat) : Int) := by omega
      rw [ei]
      refine ⟨rfl, _, rfl, _, rfl, r, _, _, _, rfl, rfl, q.1.seq (s0.seq hR), atr, t, _, rfl, q.1.sqa (s0.sqa ho), _, _, rfl, rfl, _, rfl, ?_⟩
      by_cases hb : 0 < r1.length
      · exact itY (by rw [len_sv]; omega) ⟨_, rfl, q.push hF (filt_T (f := fun i => decide (0 < (rs.getD i []).length)) (by rw [hg]; exact decide_eq_true hb)) (filt_len (by omega))⟩
      · exact itN (by rw [len_sv]; omega) (q.skip (filt_F (f := fun i => decide (0 < (rs.getD i []).length)) (by rw [hg]; exact decide_eq_false hb)))
    · rintro H3 ⟨s3, h3⟩
      rw [e1F] at h3
      have h3 : H3 F = some (.lst (nv (full rs))) := h3
      refine ⟨_, rfl, F, _, rfl, .inl (SqL.of h3), rfl, _, rfl, ?_⟩
      rw [nv_len]
      by_cases h0 : full rs = []
      · exact ifT (iEq (by rw [h0]; rfl)) (k _ s3)
      have hpos : 0 < (full rs).length := List.length_pos_iff.mpr h0
      refine ifF (iNe (by omega)) ?_
      have hm := List.getElem_mem hpos
      have en : atI (nv (full rs)) 0 = some (V.int (((full rs)[0] : Nat) : Int)) := atI_nat (j := 0) (by rw [List.getElem?_map, List.getElem?_eq_getElem hpos]; rfl)
      generalize (full rs)[0] = m at hm en
      have ok1 : okSpan cs rs (((m : Nat) : Int), 0, none) = true := okSpan_of hRow hm (by omega) (by omega) rfl
      have lt : ((ts.map V.ref).length : Int) = (ss.length : Int) := by rw [List.length_map, hTs.len]
      have e24 : ((24 : Int) - ((ts.map V.ref).length : Int)).toNat = 24 - ss.length := by rw [lt]; omega
      refine ⟨_, rfl, t, _, rfl, .inl (s3.seq (SqL.of hTd)), _, _, rfl, rfl, _, rfl, by rw [lt]; omega, by rw [lt]; omega, fun D hD => lc_range (n := ((24 : Int) - ((ts.map V.ref).length : Int)).toNat) (fun i G => Same H3 G ∧ ∃ us : List Addr, G D = some (.lst (us.map V.ref)) ∧ Tl (SqT K) G us (List.replicate i (((m : Nat) : Int), 0, none))) ⟨same_new hD, [], upd_same, Tl.nil⟩ ?_ ?_⟩
      · rintro i G hi2 ⟨sG, ws, hDG, hws⟩
        rw [e24] at hi2
        refine ⟨rfl, _, rfl, F, _, _, _, rfl, rfl, SqL.of (sG _ _ h3), en, by show 3 ≤ sizeLine; decide, fun t1 n1 => ?_⟩
        generalize hG : upd G t1 _ = G1
        have q1 : Same G G1 := hG ▸ same_new n1
        have x1 := (congrFun hG t1).symm.trans upd_same
        clear hG
        have hD1 := q1 _ _ hDG
        refine ⟨_, hD1, small_int (by rw [List.length_map, hws.len, List.length_replicate]; omega), fun b o e => by rw [upd_ne (ne_of_none e hD)]; exact q1 _ _ (sG _ _ e), ws ++ [t1], by rw [List.map_append]; exact upd_same, ?_⟩
        rw [List.replicate_succ']
        exact ((hws.imp fun t s z => q1.tup z).app (Tl.one (SqT.of x1))).imp fun t s q => sqt_updL q hD1
      rintro G ⟨sG, ws, hDG, hws⟩
      rw [e24] at hws
      have sG3 := s3.trans sG
      refine ⟨_, rfl, catO hDG (sG3 _ _ hTd) (by rw [List.length_map, List.length_map, hws.len, hTs.len, List.length_replicate]; omega) fun M G3 q3 n3 x3 => ?_⟩
      obtain ⟨zz, ezz⟩ : ∃ zz : List TSp, zz = List.replicate (24 - ss.length) (((m : Nat) : Int), 0, none) ++ ss := ⟨_, rfl⟩
      have hM : G3 M = some (.lst ((ws ++ ts).map V.ref)) := by rw [x3, List.map_append]
      have s4 := sG3.trans q3
      have hMt : Tl (SqT K) G3 (ws ++ ts) zz := by
        rw [ezz]
        exact (hws.imp fun t s z => q3.tup z).app (hTs.imp fun t s z => s4.tup z)
      have zl : zz.length = 24 := by rw [ezz, List.length_append, List.length_replicate]; omega
      have okz : ∀ s ∈ zz, okSpan cs rs s = true := fun s hs => by
        rw [ezz] at hs
        rcases List.mem_append.mp hs with h | h
        · rw [(List.mem_replicate.mp h).2]; exact ok1
        · exact hok s h
      clear ezz hDG hws x3
      generalize ws ++ ts = ws2 at hM hMt
      refine ⟨_, rfl, _, rfl, fun x dx hx hdx hne => mk_spans (hT.same s4) hrl (SqL.of hM) (hMt.imp fun t s z => .inr z) (by omega) okz hx hdx hne fun G6 s6 hS => ?_⟩
      refine ⟨rfl, ?_⟩
      have s6' := s4.trans s6
      have at0 : atI [V.ref hi, .ref ye, .ref od, .ref lo] 0 = some (V.ref hi) := atI_nat (j := 0) rfl
      have at1 : atI [V.ref hi, .ref ye, .ref od, .ref lo] 1 = some (V.ref ye) := atI_nat (j := 1) rfl
      have at2 : atI [V.ref hi, .ref ye, .ref od, .ref lo] 2 = some (V.ref od) := atI_nat (j := 2) rfl
      have at3 : atI [V.ref hi, .ref ye, .ref od, .ref lo] 3 = some (V.ref lo) := atI_nat (j := 3) rfl
      have hL6 := s6' _ _ hL
      refine ⟨_, rfl, l, _, _, _, rfl, rfl, SqL.of hL6, at0, _, rfl, l, _, _, _, rfl, rfl, SqL.of hL6, at1, by show 2 ≤ sizeLine; decide, fun p1 n1 => ?_⟩
      generalize hG : upd G6 p1 _ = K1
      have r1 : Same G6 K1 := hG ▸ same_new n1
      have y1 := (congrFun hG p1).symm.trans upd_same
      clear hG
      refine ⟨_, rfl, l, _, _, _, rfl, rfl, SqL.of (r1 _ _ hL6), at0, _, rfl, l, _, _, _, rfl, rfl, SqL.of (r1 _ _ hL6), at3, by show 2 ≤ sizeLine; decide, fun p2 n2 => ?_⟩
      generalize hG : upd K1 p2 _ = K2
      have r2 : Same K1 K2 := hG ▸ same_new n2
      have y2 := (congrFun hG p2).symm.trans upd_same
      clear hG
      have r12 := r1.trans r2
      refine ⟨_, rfl, l, _, _, _, rfl, rfl, SqL.of (r12 _ _ hL6), at2, _, rfl, l, _, _, _, rfl, rfl, SqL.of (r12 _ _ hL6), at1, by show 2 ≤ sizeLine; decide, fun p3 n3 => ?_⟩
      generalize hG : upd K2 p3 _ = K3
      have r3 : Same K2 K3 := hG ▸ same_new n3
      have y3 := (congrFun hG p3).symm.trans upd_same
      clear hG
      refine ⟨by show 3 ≤ sizeLine; decide, fun PL n4 => ?_⟩
      generalize hG : upd K3 PL _ = K4
      have r4 : Same K3 K4 := hG ▸ same_new n4
      have y4 := (congrFun hG PL).symm.trans upd_same
      clear hG
      have r14 := r12.trans (r3.trans r4)
      have s7 := s6'.trans r14
      have hall : ∀ q ∈ [p1, p2, p3], Pr K4 q := by
        intro q hq
        rcases List.mem_cons.mp hq with rfl | hq
        · exact ⟨hi, ye, 40, 40, (r2.trans (r3.trans r4)) _ _ y1, gh.same s7, gy.same s7, by decide, by decide⟩
        rcases List.mem_cons.mp hq with rfl | hq
        · exact ⟨hi, lo, 40, 40, (r3.trans r4) _ _ y2, gh.same s7, gl.same s7, by decide, by decide⟩
        rw [List.mem_singleton.mp hq]
        exact ⟨od, ye, 40, 40, r4 _ _ y3, go.same s7, gy.same s7, by decide, by decide⟩
      have hM4 := (s6.trans r14) _ _ hM
      have hMt4 := hMt.imp fun t s z => (s6.trans r14).tup z
      have hS4 := hS.same r14
      refine ⟨PL, rfl, ⟨_, SqL.of y4⟩, for_it walk_list (fun i σ H2 => Same K4 H2 ∧ ∃ u8 u9 u10 : Option V, σ = [some (.ref tb), some (.ref n), some (.ref r), some (.ref t), some (.ref l), some (.ref F), some (.ref M), some (.ref x), u8, u9, u10, none, none]) ⟨Same.refl _, none, none, none, rfl⟩ (fun i σ H2 _ q => q.1.seq (SqL.of y4)) ?_ ?_⟩
      · rintro i y σ H20 H2 hi2 ⟨sm, u8, u9, u10, rfl⟩ ⟨rfl, hx2⟩
        obtain ⟨q, hq, rfl⟩ := refs_get (ts := [p1, p2, p3]) hx2
        obtain ⟨o, yy, na, ma, hq2, ⟨ns, ho, _, hnl⟩, ⟨ys, hy, hyl⟩, hna, hma⟩ := (hall q (List.mem_of_getElem? hq)).same sm
        have b0 : atI [V.ref o, .ref yy] 0 = some (V.ref o) := atI_nat (j := 0) rfl
        have b1 : atI [V.ref o, .ref yy] 1 = some (V.ref yy) := atI_nat (j := 1) rfl
        have s8 := s7.trans sm
        refine ⟨_, rfl, _, rfl, _, rfl, _, rfl, q, _, _, _, rfl, rfl, SqL.of hq2, b0, _, rfl, q, _, _, _, rfl, rfl, SqL.of hq2, b1, n, r, M, o, yy, cs, rs, rts, ws2, zz, ns, ys, rfl, s8.seq hN, s8.seq hR, hRs.same s8, SqL.of (sm _ _ hM4), hMt4.imp (fun t s z => sm.tup z), SqL.of ho, SqL.of hy, by omega, by omega, by omega, okc.nd, okz, fun dq H3 sd hdq => ?_⟩
        refine ⟨_, rfl, _, rfl, q, _, _, _, rfl, rfl, SqL.of (sd _ _ hq2), b0, _, rfl, q, _, _, _, rfl, rfl, SqL.of (sd _ _ hq2), b1, x, tb, o, yy, cs, rs, zz, ns, ys, rfl, hS4.same (sm.trans sd), SqL.of (sd _ _ ho), SqL.of (sd _ _ hy), by omega, by omega, hrl, by omega, okc, okz, fun fq fl H5 sf hfq hfl => ?_⟩
        have hdq5 := sf _ _ hdq
        refine ⟨_, rfl, fq, _, _, _, rfl, rfl, SqT.of hfq, atI_nat (j := 0) rfl, _, rfl, dq, _, _, _, rfl, rfl, SqT.of hdq5, atI_nat (j := 0) rfl, rfl, _, rfl, ifF (by rw [decide_eq_true rfl]; rfl) ?_⟩
        generalize numF (dueF cs rs zz ns ys) = nf at hfq hdq5
        refine ⟨_, rfl, fq, _, _, _, rfl, rfl, SqT.of hfq, atI_nat (j := 1) rfl, _, rfl, dq, _, _, _, rfl, rfl, SqT.of hdq5, atI_nat (j := 1) rfl, _, rfl, dq, _, _, _, rfl, rfl, SqT.of hdq5, atI_nat (j := 1) rfl, (nf : Int), (nf : Int), (nf : Int), rfl, ?_⟩
        rw [decide_eq_true (show (nf : Int) ≤ nf ∧ (nf : Int) ≤ nf from ⟨Int.le_refl _, Int.le_refl _⟩)]
        exact ⟨_, rfl, ifF rfl ⟨sm.trans (sd.trans sf), _, _, _, rfl⟩⟩
      · rintro σ H2 ⟨sm, _⟩
        exact k _ (s7.trans sm)
end
end My
set_option maxRecDepth 100000
set_option maxHeartbeats 16000000
set_option exponentiation.threshold 10000
namespace My
open PySem L2
open C8 (pss_cut)
/-- rows as data -/
abbrev pdr (rs : List (List Str)) : List PyData := rs.map fun r => PyData.list (pd r)
theorem lay_pdr {rs : List (List Str)} (h : ∀ r ∈ rs, ∀ z ∈ r, Good z) : PyData.canLayAll0 (pdr rs) = true := by
  induction rs with
  | nil => rfl
  | cons a t ih => exact layc (layL (lay_all fun z hz => okz_good (h a List.mem_cons_self z hz))) (ih fun s hs => h s (List.mem_cons_of_mem _ hs))
theorem depth_pdr : ∀ rs : List (List Str), PyData.depthAll (pdr rs) ≤ 3
  | [] => by simp [PyData.depthAll]
  | r :: t => by
    have h1 : PyData.depthAll (t.map fun r => PyData.list (pd r)) ≤ 3 := depth_pdr t
    have h2 := depth_pd r
    simp only [List.map_cons, PyData.depthAll, PyData.depth]
    omega
theorem dp_pdr {K : PySem.W.Frag} {H : Hp} : ∀ {ts : List Addr} {rs : List (List Str)}, Lss .lst H ts rs → DpAll K H (ts.map V.ref) (pdr rs)
  | [], [], _ => .nil
  | [], _ :: _, h => nomatch h.len
  | _ :: _, [], h => nomatch h.len
  | t :: ts, r :: rs, h => .cons (.lst (xs := sv r) (SqL.of (h.at_ 0 t r rfl rfl)) (dp_pd r)) (dp_pdr ⟨Nat.succ.inj h.len, fun i u x a b => h.at_ (i + 1) u x a b⟩)
abbrev pdi (l : List Int) : List PyData := l.map PyData.int
theorem dp_ivs {K : PySem.W.Frag} {H : Hp} : ∀ l : List Int, DpAll K H (ivs l) (pdi l)
  | [] => .nil
  | a :: l => .cons (.int a) (dp_ivs l)
theorem lay_pdi : ∀ l : List Int, PyData.canLayAll0 (pdi l) = true
  | [] => by simp [PyData.canLayAll0]
  | a :: l => layc (lay_int a) (lay_pdi l)
theorem depth_pdi : ∀ l : List Int, PyData.depthAll (pdi l) ≤ 1
  | [] => by simp [PyData.depthAll]
  | a :: l => by
    have h : PyData.depthAll (l.map PyData.int) ≤ 1 := depth_pdi l
    simp only [List.map_cons, PyData.depthAll, PyData.depth]
    omega
theorem cut_ints (ns : List Int) : ∃ ys : List Int, cutV (ns.map V.int) (some (3 : Int)) (some (6 : Int)) = ys.map V.int ∧ ys.length ≤ 3 := by
  unfold cutV
  rw [show (3 : Int) = ((3 : Nat) : Int) from rfl, show (6 : Int) = ((6 : Nat) : Int) from rfl, HT.sIx_nat, HT.sIx_nat, ← List.map_drop, ← List.map_take]
  refine ⟨_, rfl, ?_⟩
  rw [List.length_take]
  omega
theorem Tb.updL {C : Addr} {H : Hp} {p b : Addr} {cs : List Str} {rs : List (List Str)} {ys : List V} {o : HO} (h : Tb C H p cs rs) (hb : H b = some (.lst ys)) : Tb C (upd H b o) p cs rs := by
  obtain ⟨dxt, ct, rt, ts, h1, h2, h3, h4⟩ := h
  have nb : ∀ a u, H a = some u → (∀ zs, u ≠ .lst zs) → upd H b o a = some u := fun a u e hne => by
    rw [upd_ne (fun z => hne ys (by rw [z, hb] at e; exact (Option.some.inj e).symm))]; exact e
  exact ⟨dxt, ct, rt, ts, nb _ _ h1 (fun _ z => nomatch z), nb _ _ h2 (fun _ z => nomatch z), nb _ _ h3 (fun _ z => nomatch z), ⟨h4.len, fun i t x a b => nb _ _ (h4.at_ i t x a b) (fun _ z => nomatch z)⟩⟩
theorem Sps.updL {C CT : Addr} {K : PySem.W.Frag} {H : Hp} {p tb b : Addr} {cs : List Str} {rs : List (List Str)} {ss : List TSp} {ys : List V} {o : HO} (h : Sps C CT K H p tb cs rs ss) (hb : H b = some (.lst ys)) : Sps C CT K (upd H b o) p tb cs rs ss := by
  obtain ⟨dx, ut, us, h1, h2, h3, h4⟩ := h
  have nb : ∀ a u, H a = some u → (∀ zs, u ≠ .lst zs) → upd H b o a = some u := fun a u e hne => by
    rw [upd_ne (fun z => hne ys (by rw [z, hb] at e; exact (Option.some.inj e).symm))]; exact e
  exact ⟨dx, ut, us, nb _ _ h1 (fun _ z => nomatch z), h2.updL hb, nb _ _ h3 (fun _ z => nomatch z), h4.imp fun t s q => sqt_updL q hb⟩
theorem mk_table2 {C : Addr} {K : PySem.W.Frag} {H : Hp} {l r x dx : Addr} {cs : List Str} {ts : List Addr} {rs : List (List Str)} {Q2 : VK} (hL : SqL K H l (sv cs) ∨ H l = some (.tup (sv cs))) (hR : SqL K H r (ts.map V.ref)) (hs : LsA K H ts rs) (ok : ColsOk cs) (hr : rs.length ≤ 48)
    (st : ∀ x ∈ rs, stray cs x = none ∧ x.length ≤ 1000) (hx : H x = none) (hdx : H dx = none) (hne : dx ≠ x) (k : ∀ H', Same H H' → Tb C H' x cs rs → Q2 .non H') :
    spTable C K (.ref x :: ([.ref l, .ref r] ++ [])) (upd (upd H dx (.own x)) x (.ins C dx [])) Q2 E0 := by
  have s1 := same_new (o := .own x) hdx
  have hx1 : upd H dx (.own x) x = none := by rw [upd_ne hne.symm]; exact hx
  have s2 : Same H (upd (upd H dx (.own x)) x (.ins C dx [])) := s1.trans (same_new hx1)
  exact ⟨x, l, r, dx, cs, ts, rs, rfl, upd_same, hL.imp (fun q => s2.seq q) (fun q => s2 _ _ q), s2.seq hR, hs.same s2, ok.g, ok.nd, ok.n, hr, st, fun H' hk hT => k H' (fun b o e => hk b o (ne_of_none e hx) (s2 _ _ e)) hT⟩
def spLaw (K : PySem.W.Frag) : Sp := fun vs H Q _ => ∃ (a : Addr) (ns : List Int), vs = [.ref a] ∧ SqL K H a (ns.map V.int) ∧ ns.length ≤ 63 ∧ ∀ H', Q (.bl true) H'
section
variable {P : Program} {w : World} {K : PySem.W.Frag} {mg : Str → Option Value} {base : Heap} {A : Ad}
theorem ok_law (T : Txt P K mg A) : FnOk P w K mg base CX0 20 A.a_law A.d_law ["script"] (spLaw K) := by
  have G_law_pool := ok_pool (P := P) (w := w) (base := base) T
  have G_law_size := ok_size (P := P) (w := w) (base := base) T
  have G_law_names := ok_names (P := P) (w := w) (base := base) T
  have G_law_order := ok_order (P := P) (w := w) (base := base) T
  have G_law_row := ok_row (P := P) (w := w) (base := base) T
  have G_law_rows := ok_rows (P := P) (w := w) (base := base) T
  have G_law_steps := ok_steps (P := P) (w := w) (base := base) T
  have G_law_told := ok_told (P := P) (w := w) (base := base) T
  have G_law_free_spans := ok_free (P := P) (w := w) (base := base) T
  have G_law_other_order := ok_oorder (P := P) (w := w) (base := base) T
  have G_law_other_years := ok_oyears (P := P) (w := w) (base := base) T
  have G_Table_init := ok_table (P := P) (w := w) (base := base) T
  have G_Table_eq := ok_eq (P := P) (w := w) (base := base) T
  have G_Spans_init := ok_spans (P := P) (w := w) (base := base) T
  have G_time_of := ok_time (P := P) (w := w) (base := base) T
  have G_time_ofT := ok_timeT (P := P) (w := w) (base := base) T
  have G_law_time := ok_ltime (P := P) (w := w) (base := base) T
  have G_law_is_number := ok_isNum (P := P) (w := w) (base := base) T
  have G_law_due := ok_due (P := P) (w := w) (base := base) T
  have G_law_checked := ok_checked (P := P) (w := w) (base := base) T
  have G_law_checkedT := ok_checkedT (P := P) (w := w) (base := base) T
  have G_law_bounds_right := ok_bounds (P := P) (w := w) (base := base) T
  have G_law_many_right := ok_many (P := P) (w := w) (base := base) T
  refine T.F_law.ok sc_law (fun vs H Q E h => ?_) (fun cdv A' outer s H vs Q E hr h => ?_)
  · obtain ⟨a, ns, rfl, _⟩ := h
    rfl
  · obtain ⟨a, ns, rfl, hS, hnl, kk⟩ := h
    refine ⟨_, (pss_cons (ps_set (i := 1) sc_law.nd rfl (Or.inl rfl) (pe_call G_law_pool (hr.mono (by decide)) rfl T.mg_law_pool T.F_law_pool.kp T.b_law_pool .nil pass0 (pa_cons (pv 0) (pa_cons pe_int (pa_cons pe_int pa_nil)))))
      (pss_cons (ps_set (i := 2) sc_law.nd rfl (Or.inl rfl) (pe_call G_law_pool (hr.mono (by decide)) rfl T.mg_law_pool T.F_law_pool.kp T.b_law_pool .nil pass0 (pa_cons (pv 0) (pa_cons pe_int (pa_cons pe_int pa_nil)))))
      (pss_cons (ps_set (i := 3) sc_law.nd rfl (Or.inl rfl) (pe_call G_law_pool (hr.mono (by decide)) rfl T.mg_law_pool T.F_law_pool.kp T.b_law_pool .nil pass0 (pa_cons (pv 0) (pa_cons pe_int (pa_cons pe_int pa_nil)))))
      (pss_cons (ps_set (i := 4) sc_law.nd rfl (Or.inl rfl) (pe_call G_law_size (hr.mono (by decide)) rfl T.mg_law_size T.F_law_size.kp T.b_law_size .nil pass0 (pa_cons (pe_ix ix_list (pv 1) pe_int (fun _ _ => rfl)) (pa_cons pe_int pa_nil))))
      (pss_cons (ps_set (i := 5) sc_law.nd rfl (Or.inl rfl) (pe_call G_law_names (hr.mono (by decide)) rfl T.mg_law_names T.F_law_names.kp T.b_law_names .nil pass0 (pa_cons (pv 4) (pa_cons (pe_ix ix_list (pv 1) pe_int (fun _ _ => rfl)) pa_nil))))
      (pss_cons (ps_set (i := 6) sc_law.nd rfl (Or.inr rfl) (pe_call G_law_order (hr.mono (by decide)) rfl T.mg_law_order T.F_law_order.kp T.b_law_order .nil pass0 (pa_cons (pv 5) (pa_cons (pv 1) (pa_cons pe_int pa_nil)))))
      (pss_cons (ps_set (i := 7) sc_law.nd rfl (Or.inl rfl) (pe_ix ix_list (pe_lst (pa_cons pe_int (pa_cons pe_int (pa_cons pe_int (pa_cons pe_int pa_nil))))) (pe_op op_mod (pe_callTy call_int1 (by rfl) T.n_int (by decide +kernel) (pa_cons (pe_ix ix_list (pv 1) pe_int (fun _ _ => rfl)) pa_nil)) pe_int) (fun _ _ => rfl)))
      (pss_cons (ps_set (i := 8) sc_law.nd rfl (Or.inl rfl) (pe_call G_law_rows (hr.mono (by decide)) rfl T.mg_law_rows T.F_law_rows.kp T.b_law_rows .nil pass0 (pa_cons (pv 5) (pa_cons (pv 6) (pa_cons (pv 1) (pa_cons pe_int (pa_cons (pe_op op_mod (pe_callTy call_int1 (by rfl) T.n_int (by decide +kernel) (pa_cons (pe_ix ix_list (pv 1) pe_int (fun _ _ => rfl)) pa_nil)) pe_int) (pa_cons (pv 7) pa_nil))))))))
      (pss_cons (ps_for PassesOwn.never rfl (pi_list (pe_slice sl_list (pv 0) (po_some pe_int) (po_some pe_int))) (pg_name (i := 9) sc_law.nd rfl (Or.inl rfl))
        (pss_one (ps_expr (pe_bm PySem.F.plainAttrs_list PySem.F.slot_list_append PySem.F.type_list_append mt_append (pv 8) (pa_cons (pe_call G_law_row (hr.mono (by decide)) rfl T.mg_law_row T.F_law_row.kp T.b_law_row .nil pass0 (pa_cons (pv 5) (pa_cons (pv 6) (pa_cons (pe_callB call_abs (by rfl) T.n_abs (by decide +kernel) (pa_cons (pv 9) pa_nil)) (pa_cons (pe_cmpR op_eq (pv 7) pe_int (nomark _)) pa_nil))))) pa_nil)))))
      (pss_cons (ps_set (i := 10) sc_law.nd rfl (Or.inr rfl) (pe_call G_law_steps (hr.mono (by decide)) rfl T.mg_law_steps T.F_law_steps.kp T.b_law_steps .nil pass0 (pa_cons (pv 2) (pa_cons pe_int (pa_cons (pv 4) pa_nil)))))
      (pss_cons (ps_set (i := 11) sc_law.nd rfl (Or.inl rfl) (pe_call G_law_told (hr.mono (by decide)) rfl T.mg_law_told T.F_law_told.kp T.b_law_told .nil pass0 (pa_cons (pv 6) (pa_cons (pv 10) (pa_cons (pv 8) (pa_cons (pv 2) (pa_cons pe_int (pa_cons (pe_op op_mod (pe_callTy call_int1 (by rfl) T.n_int (by decide +kernel) (pa_cons (pe_ix ix_list (pv 2) pe_int (fun _ _ => rfl)) pa_nil)) pe_int) (pa_cons (pe_cmpR op_eq (pe_op op_mod (pe_callTy call_int1 (by rfl) T.n_int (by decide +kernel) (pa_cons (pe_ix ix_list (pv 3) pe_int (fun _ _ => rfl)) pa_nil)) pe_int) pe_int (nomark _)) pa_nil)))))))))
      (pss_cut (ps_if (pt_cmpR op_eq (pe_op op_mod (pe_callTy call_int1 (by rfl) T.n_int (by decide +kernel) (pa_cons (pe_ix ix_list (pv 3) pe_int (fun _ _ => rfl)) pa_nil)) pe_int) pe_int (nomark _)) (pss_one (ps_set (i := 11) sc_law.nd rfl (Or.inl rfl) (pe_call G_law_free_spans (hr.mono (by decide)) rfl T.mg_law_free_spans T.F_law_free_spans.kp T.b_law_free_spans .nil pass0 (pa_cons (pv 8) (pa_cons (pv 2) (pa_cons pe_int (pa_cons (pe_op op_mod (pe_callTy call_int1 (by rfl) T.n_int (by decide +kernel) (pa_cons (pe_ix ix_list (pv 2) pe_int (fun _ _ => rfl)) pa_nil)) pe_int) pa_nil))))))) pss_nil)
      (pss_cons (ps_set (i := 12) sc_law.nd rfl (Or.inl rfl) (pe_call G_law_other_order (hr.mono (by decide)) rfl T.mg_law_other_order T.F_law_other_order.kp T.b_law_other_order .nil pass0 (pa_cons (pv 6) (pa_cons (pv 5) (pa_cons (pv 3) pa_nil)))))
      (pss_cons (ps_set (i := 13) sc_law.nd rfl (Or.inl rfl) (pe_call G_law_other_years (hr.mono (by decide)) rfl T.mg_law_other_years T.F_law_other_years.kp T.b_law_other_years .nil pass0 (pa_cons (pv 10) (pa_cons (pv 3) pa_nil))))
      (pss_cons (ps_set (i := 14) sc_law.nd rfl (Or.inl rfl) (pe_lst (pa_cons (pe_callTy (show CallR _ _ (rListOf K) from call_list_of) (by rfl) T.n_list (by decide +kernel) (pa_cons (pv 5) pa_nil)) (pa_cons (pe_lc (own := [("row", 18)]) (g := gName 18) (tt := tYes) rfl sc_law.nd (pi_list (pv 8)) (blkOk_by (N := ["script", "p0", "p1", "p2", "size", "names", "hidden", "mode", "rows", "cell", "years", "told", "order", "lot", "handed", "table", "passed", "spans", "row", "time", "due", "back", "turned", "far", "more", "pair", "found", "k", "name", "year"]) (sc := defScope s_law) (by decide +kernel)) (fun _ _ _ _ _ => (pg_name (i := 18) sc_law.nd rfl (Or.inl rfl))) (fun _ _ _ _ _ => pts_nil) (fun _ _ _ _ _ => (pe_callTy (show CallR _ _ (rListOf K) from call_list_of) (by rfl) T.n_list (by decide +kernel) (pa_cons (pv 18) pa_nil)))) (pa_cons (pe_callTy (show CallR _ _ (rListOf K) from call_list_of) (by rfl) T.n_list (by decide +kernel) (pa_cons (pv 12) pa_nil)) (pa_cons (pe_callTy (show CallR _ _ (rListOf K) from call_list_of) (by rfl) T.n_list (by decide +kernel) (pa_cons (pv 13) pa_nil)) (pa_cons (pe_callTy (show CallR _ _ (rListOf K) from call_list_of) (by rfl) T.n_list (by decide +kernel) (pa_cons (pv 6) pa_nil)) (pa_cons (pe_callTy (show CallR _ _ (rListOf K) from call_list_of) (by rfl) T.n_list (by decide +kernel) (pa_cons (pv 10) pa_nil)) pa_nil))))))))
      (pss_cons (ps_set (i := 15) sc_law.nd rfl (Or.inl rfl) (pe_make T.mk_Table G_Table_init (hr.mono (by decide)) rfl T.mg_Table T.bi .nil pass0 (pa_cons (pe_ix ix_list (pv 14) pe_int (fun _ _ => rfl)) (pa_cons (pe_ix ix_list (pv 14) pe_int (fun _ _ => rfl)) pa_nil))))
      (pss_cons (ps_set (i := 16) sc_law.nd rfl (Or.inl rfl) (pe_callTy (show CallR _ _ (rListOf K) from call_list_of) (by rfl) T.n_list (by decide +kernel) (pa_cons (pv 11) pa_nil)))
      (pss_cons (ps_set (i := 17) sc_law.nd rfl (Or.inl rfl) (pe_make T.mk_Spans G_Spans_init (hr.mono (by decide)) rfl T.mg_Spans T.b_Spans_init .nil pass0 (pa_cons (pv 15) (pa_cons (pv 16) pa_nil))))
      (pss_cons (ps_if (pt_cmpR (op_neD hr.units) (pv 16) (pv 11) (nomark _)) (pss_one (ps_ret pe_bl)) pss_nil)
      (pss_cons (ps_expr (pe_bm PySem.F.plainAttrs_list PySem.F.slot_list_append PySem.F.type_list_append mt_append (pv 16) (pa_cons (pe_tupD (pa_cons (pe_callB call_len_seq (by rfl) T.n_len (by decide +kernel) (pa_cons (pv 8) pa_nil)) (pa_cons pe_int (pa_cons pe_non pa_nil)))) pa_nil)))
      (pss_cons (ps_if (PW.pt (pw_or (pt_not (pt_val (pe_callB call_isi (by rfl) T.n_isinstance (by decide +kernel) (pa_cons (pe_fld (pv 17) rfl) (pa_cons (pe_bltn (v := .ty "tuple") (by rfl) T.n_tuple (by decide +kernel) rfl) pa_nil))))) (pw_or (pt_cmpR (op_neD hr.units) (pe_fld (pv 17) rfl) (pe_callTy (show CallR _ _ (rTupD K) from call_tuple_ofD) (by rfl) T.n_tuple (by decide +kernel) (pa_cons (pv 11) pa_nil)) (nomark _)) (pw_or1 (pt_not (pt_cmpR (op_eqOwn G_Table_eq T.b_Table_eq pass0 (hr.mono (by decide)) T.m_Table_eq.at_ T.m_Table_eq.fn) (pe_fld (pv 17) rfl) (pv 15) (nomark _))))))) (pss_one (ps_ret pe_bl)) pss_nil)
      (pss_cons (ps_for PassesOwn.never rfl (pi_list (pe_op op_cat (pv 8) (pe_lc (own := [("name", 28)]) (g := gName 28) (tt := tYes) rfl sc_law.nd (pi_list (pv 5)) (blkOk_by (N := ["script", "p0", "p1", "p2", "size", "names", "hidden", "mode", "rows", "cell", "years", "told", "order", "lot", "handed", "table", "passed", "spans", "row", "time", "due", "back", "turned", "far", "more", "pair", "found", "k", "name", "year"]) (sc := defScope s_law) (by decide +kernel)) (fun _ _ _ _ _ => (pg_name (i := 28) sc_law.nd rfl (Or.inl rfl))) (fun _ _ _ _ _ => pts_nil) (fun _ _ _ _ _ => (pe_lst (pa_cons (pv 28) pa_nil)))))) (pg_name (i := 18) sc_law.nd rfl (Or.inl rfl))
        (pss_one (ps_if (pt_cmpR op_gt (pe_callB call_len_seq (by rfl) T.n_len (by decide +kernel) (pa_cons (pv 18) pa_nil)) pe_int (nomark _)) (pss_cons (ps_set (i := 19) sc_law.nd rfl (Or.inl rfl) (pe_call G_time_of (hr.mono (by decide)) rfl T.mg_time_of T.F_time_of.kp T.b_time_of .nil pass0 (pa_cons (pe_ix ix_list (pv 14) pe_int (fun _ _ => rfl)) (pa_cons (pe_ix ix_list (pv 14) pe_int (fun _ _ => rfl)) (pa_cons (pe_op op_cat (pv 18) (pe_slice sl_list (pv 18) po_none (po_some pe_int))) pa_nil)))))
      (pss_cons (ps_set (i := 20) sc_law.nd rfl (Or.inl rfl) (pe_call G_law_time (hr.mono (by decide)) rfl T.mg_law_time T.F_law_time.kp T.b_law_time .nil pass0 (pa_cons (pv 6) (pa_cons (pv 10) (pa_cons (pv 18) pa_nil)))))
      (pss_one (ps_if (PW.pt (pw_or (pt_not (pt_val (pe_call G_law_is_number (hr.mono (by decide)) rfl T.mg_law_is_number T.F_law_is_number.kp T.b_law_is_number .nil pass0 (pa_cons (pv 19) (pa_cons (pv 20) (pa_cons (pv 20) pa_nil)))))) (pw_or1 (pt_cmpR op_ne (pe_call G_time_ofT (hr.mono (by decide)) rfl T.mg_time_of T.F_time_of.kp T.b_time_of .nil pass0 (pa_cons (pe_callTy (show CallR _ _ (rTupD K) from call_tuple_ofD) (by rfl) T.n_tuple (by decide +kernel) (pa_cons (pv 6) pa_nil)) (pa_cons (pe_callTy (show CallR _ _ (rTupD K) from call_tuple_ofD) (by rfl) T.n_tuple (by decide +kernel) (pa_cons (pv 10) pa_nil)) (pa_cons (pe_callTy (show CallR _ _ (rTupD K) from call_tuple_ofD) (by rfl) T.n_tuple (by decide +kernel) (pa_cons (pv 18) pa_nil)) pa_nil)))) (pv 20) (nomark _))))) (pss_one (ps_ret pe_bl)) pss_nil)))) pss_nil)))
      (pss_cons (ps_setLc (i := 21) (own := [("k", 27)]) (g := gName 27) (tt := tYes) rfl sc_law.nd rfl rfl (sw_true rfl rfl rfl (by decide +kernel)) (pi_range1 (by rfl) T.n_range (pa_cons (pv 4) pa_nil)) (blkOk_by (N := ["script", "p0", "p1", "p2", "size", "names", "hidden", "mode", "rows", "cell", "years", "told", "order", "lot", "handed", "table", "passed", "spans", "row", "time", "due", "back", "turned", "far", "more", "pair", "found", "k", "name", "year"]) (sc := defScope s_law) (by decide +kernel)) (fun _ _ _ _ _ => (pg_name (i := 27) sc_law.nd rfl (Or.inl rfl))) (fun _ _ _ _ _ => pts_nil) (fun _ _ _ _ _ => (pe_ix (show IxR _ (rIxL K) from ix_list) (pv 6) (pe_op op_sub (pe_op op_sub (pe_callB (show CallR _ _ (rLen2 K) from call_len_seq) (by rfl) T.n_len (by decide +kernel) (pa_cons (pv 6) pa_nil)) pe_int) (pv 27)) (fun _ _ => rfl))))
      (pss_cons (ps_setLc (i := 22) (own := [("k", 27)]) (g := gName 27) (tt := tYes) rfl sc_law.nd rfl rfl (sw_true rfl rfl rfl (by decide +kernel)) (pi_range1 (by rfl) T.n_range (pa_cons (pv 4) pa_nil)) (blkOk_by (N := ["script", "p0", "p1", "p2", "size", "names", "hidden", "mode", "rows", "cell", "years", "told", "order", "lot", "handed", "table", "passed", "spans", "row", "time", "due", "back", "turned", "far", "more", "pair", "found", "k", "name", "year"]) (sc := defScope s_law) (by decide +kernel)) (fun _ _ _ _ _ => (pg_name (i := 27) sc_law.nd rfl (Or.inl rfl))) (fun _ _ _ _ _ => pts_nil) (fun _ _ _ _ _ => (pe_op op_sub (pe_op op_pow pe_int pe_int) (pe_ix (show IxR _ (rIxL K) from ix_list) (pv 10) (pe_op op_sub (pe_op op_sub (pe_callB (show CallR _ _ (rLen2 K) from call_len_seq) (by rfl) T.n_len (by decide +kernel) (pa_cons (pv 10) pa_nil)) pe_int) (pv 27)) (fun _ _ => rfl)))))
      (pss_cons (ps_set (i := 23) sc_law.nd rfl (Or.inl rfl) (pe_op op_cat (pe_slice sl_list (pv 10) po_none (po_some (pe_un un_neg pe_int))) (pe_lc (own := [("year", 29)]) (g := gName 29) (tt := tYes) rfl sc_law.nd (pi_list (pe_slice sl_list (pv 10) (po_some (pe_un un_neg pe_int)) po_none)) (blkOk_by (N := ["script", "p0", "p1", "p2", "size", "names", "hidden", "mode", "rows", "cell", "years", "told", "order", "lot", "handed", "table", "passed", "spans", "row", "time", "due", "back", "turned", "far", "more", "pair", "found", "k", "name", "year"]) (sc := defScope s_law) (by decide +kernel)) (fun _ _ _ _ _ => (pg_name (i := 29) sc_law.nd rfl (Or.inl rfl))) (fun _ _ _ _ _ => pts_nil) (fun _ _ _ _ _ => (pe_op op_add (pv 29) (pe_op op_pow pe_int pe_int))))))
      (pss_cons (ps_set (i := 24) sc_law.nd rfl (Or.inl rfl) (pe_lst (pa_cons (pe_lst (pa_cons (pv 6) (pa_cons (pv 23) pa_nil))) (pa_cons (pe_lst (pa_cons (pv 6) (pa_cons (pe_op op_cat (pv 10) (pe_lst (pa_cons (pe_op op_pow pe_int pe_int) pa_nil))) pa_nil))) pa_nil))))
      (pss_cons (ps_for PassesOwn.never rfl (pi_list (pe_op op_cat (pe_lst (pa_cons (pe_lst (pa_cons (pe_ix ix_list (pv 14) pe_int (fun _ _ => rfl)) (pa_cons (pe_ix ix_list (pv 14) pe_int (fun _ _ => rfl)) pa_nil))) (pa_cons (pe_lst (pa_cons (pe_ix ix_list (pv 14) pe_int (fun _ _ => rfl)) (pa_cons (pe_ix ix_list (pv 14) pe_int (fun _ _ => rfl)) pa_nil))) (pa_cons (pe_lst (pa_cons (pe_ix ix_list (pv 14) pe_int (fun _ _ => rfl)) (pa_cons (pe_ix ix_list (pv 14) pe_int (fun _ _ => rfl)) pa_nil))) (pa_cons (pe_lst (pa_cons (pv 21) (pa_cons (pv 22) pa_nil))) pa_nil))))) (pv 24))) (pg_name (i := 25) sc_law.nd rfl (Or.inl rfl))
        (pss_cons (ps_set (i := 20) sc_law.nd rfl (Or.inl rfl) (pe_call G_law_due (hr.mono (by decide)) rfl T.mg_law_due T.F_law_due.kp T.b_law_due .nil pass0 (pa_cons (pv 5) (pa_cons (pv 8) (pa_cons (pv 11) (pa_cons (pe_ix ix_list (pv 25) pe_int (fun _ _ => rfl)) (pa_cons (pe_ix ix_list (pv 25) pe_int (fun _ _ => rfl)) pa_nil)))))))
      (pss_one (ps_for PassesOwn.never rfl (pi_list (pe_lst (pa_cons (pe_call G_law_checked (hr.mono (by decide)) rfl T.mg_law_checked T.F_law_checked.kp T.b_law_checked .nil pass0 (pa_cons (pv 17) (pa_cons (pe_ix ix_list (pv 25) pe_int (fun _ _ => rfl)) (pa_cons (pe_ix ix_list (pv 25) pe_int (fun _ _ => rfl)) pa_nil)))) (pa_cons (pe_call G_law_checkedT (hr.mono (by decide)) rfl T.mg_law_checked T.F_law_checked.kp T.b_law_checked .nil pass0 (pa_cons (pv 17) (pa_cons (pe_callTy (show CallR _ _ (rTupD K) from call_tuple_ofD) (by rfl) T.n_tuple (by decide +kernel) (pa_cons (pe_ix ix_list (pv 25) pe_int (fun _ _ => rfl)) pa_nil)) (pa_cons (pe_callTy (show CallR _ _ (rTupD K) from call_tuple_ofD) (by rfl) T.n_tuple (by decide +kernel) (pa_cons (pe_ix ix_list (pv 25) pe_int (fun _ _ => rfl)) pa_nil)) pa_nil)))) pa_nil)))) (pg_name (i := 26) sc_law.nd rfl (Or.inl rfl))
        (pss_one (ps_if (PW.pt (pw_or (pt_cmpR op_ne (pe_ix ix_tup (pv 26) pe_int (fun _ _ => rfl)) (pe_ix ix_tup (pv 20) pe_int (fun _ _ => rfl)) (nomark _)) (pw_or (pt_not (pt_val (pe_call G_law_is_number (hr.mono (by decide)) rfl T.mg_law_is_number T.F_law_is_number.kp T.b_law_is_number .nil pass0 (pa_cons (pe_ix ix_tup (pv 26) pe_int (fun _ _ => rfl)) (pa_cons (pe_ix ix_tup (pv 20) pe_int (fun _ _ => rfl)) (pa_cons (pe_ix ix_tup (pv 20) pe_int (fun _ _ => rfl)) pa_nil)))))) (pw_or1 (pt_cmpR (op_neD hr.units) (pe_ix ix_tup (pv 26) pe_int (fun _ _ => rfl)) (pe_lst (pa_cons pe_bl (pa_cons pe_bl (pa_cons pe_bl pa_nil)))) (nomark _)))))) (pss_one (ps_ret pe_bl)) pss_nil))))))
      (pss_cons (ps_if (PW.pt (pw_or (pt_not (pt_val (pe_call G_law_bounds_right (hr.mono (by decide)) rfl T.mg_law_bounds_right T.F_law_bounds_right.kp T.b_law_bounds_right .nil pass0 (pa_cons (pv 15) (pa_cons (pv 8) (pa_cons (pv 11) (pa_cons (pv 3) pa_nil))))))) (pw_or1 (pt_not (pt_val (pe_call G_law_many_right (hr.mono (by decide)) rfl T.mg_law_many_right T.F_law_many_right.kp T.b_law_many_right .nil pass0 (pa_cons (pv 15) (pa_cons (pv 5) (pa_cons (pv 8) (pa_cons (pv 11) (pa_cons (pe_lst (pa_cons (pv 6) (pa_cons (pv 10) (pa_cons (pv 12) (pa_cons (pv 13) pa_nil))))) pa_nil))))))))))) (pss_one (ps_ret pe_bl)) pss_nil)
      (pss_one (ps_ret (pe_cmpR (op_eqD hr.units) (pv 14) (pe_lst (pa_cons (pv 5) (pa_cons (pv 8) (pa_cons (pv 12) (pa_cons (pv 13) (pa_cons (pv 6) (pa_cons (pv 10) pa_nil))))))) (nomark _)))))))))))))))))))))))))))))))), ?_⟩
    refine ⟨_, rfl, a, ns, 0, 60, rfl, hS, by decide, by decide, by decide, fun p0 q0 H1 s1 hp0 l0 P0 => ?_⟩
    refine ⟨_, rfl, a, ns, 1, 60, rfl, s1.seq hS, by decide, by decide, by decide, fun p1 q1 H2 s2 hp1 l1 P1 => ?_⟩
    refine ⟨_, rfl, a, ns, 2, 60, rfl, (s1.trans s2).seq hS, by decide, by decide, by decide, fun p2 q2 H3 s3 hp2 l2 P2 => ?_⟩
    have hS3 := (s1.trans (s2.trans s3)).seq hS
    have hp0 := s3 _ _ (s2 _ _ hp0)
    have hp1 := s3 _ _ hp1
    obtain ⟨x0, hx0, e0⟩ := atI_ok (xs := q0) (j := 0) (by omega) (by omega)
    obtain ⟨x1, hx1, e1⟩ := atI_ok (xs := q0) (j := 1) (by omega) (by omega)
    obtain ⟨x26, hx26, e26⟩ := atI_ok (xs := q0) (j := 26) (by omega) (by omega)
    obtain ⟨x27, hx27, e27⟩ := atI_ok (xs := q0) (j := 27) (by omega) (by omega)
    obtain ⟨y24, hy24, f24⟩ := atI_ok (xs := q1) (j := 24) (by omega) (by omega)
    obtain ⟨z28, hz28, g28⟩ := atI_ok (xs := q2) (j := 28) (by omega) (by omega)
    obtain ⟨z29, hz29, g29⟩ := atI_ok (xs := q2) (j := 29) (by omega) (by omega)
    clear s1 s2 s3 hS
    refine ⟨_, rfl, p0, _, _, _, rfl, rfl, SqL.of hp0, e0, x0, rfl, fun sz H4 s4 hsz => ?_⟩
    refine ⟨_, rfl, _, rfl, p0, _, _, _, rfl, rfl, SqL.of (s4 _ _ hp0), e1, sz, x1, rfl, hsz, fun n cs H5 s5 hn hcl hN => ?_⟩
    have s5 := s4.trans s5
    have cl : cs.length ≤ 12 := by omega
    have nd := hN.1
    have hg : ∀ z ∈ cs, Good z := fun z hz => (hN.2 z hz).1
    have hok : ColsOk cs := ⟨hg, nd, cl⟩
    refine ⟨_, rfl, _, rfl, n, p0, cs, q0, 2, rfl, SqL.of hn, SqL.of (s5 _ _ hp0), cl, by decide, by omega, fun h hs H6 s6 _ hh hperm => ?_⟩
    have hn := s6 _ _ hn
    have s6 := s5.trans s6
    have hp0 := s6 _ _ hp0
    have hp1 := s6 _ _ hp1
    have hp2 := s6 _ _ hp2
    have hS6 := s6.seq hS3
    clear s4 s5 s6 hS3
    have m0 := Int.emod_nonneg x26 (show (7 : Int) ≠ 0 by decide)
    have m1 := Int.emod_lt_of_pos x26 (show (0 : Int) < 7 by decide)
    have c0 := Int.emod_nonneg y24 (show (7 : Int) ≠ 0 by decide)
    have c1 := Int.emod_lt_of_pos y24 (show (0 : Int) < 7 by decide)
    obtain ⟨ys3, ey, hyl3⟩ := cut_ints ns
    have ndh : hs.Nodup := hperm.nodup_iff.mpr nd
    have hl12 : hs.length ≤ 12 := by rw [hperm.length_eq]; exact cl
    obtain ⟨md, hmd, em⟩ := atI_ok (xs := ([0, 0, 1, 2] : List Int)) (j := x27 % 4) (Int.emod_nonneg _ (by decide)) (by show x27 % 4 < 4; omega)
    refine ⟨by show 4 ≤ sizeLine; decide, fun ml n1 => ?_⟩
    generalize hG : upd H6 ml _ = H7
    have q7 : Same H6 H7 := hG ▸ same_new n1
    have y7 := (congrFun hG ml).symm.trans upd_same
    clear hG
    refine ⟨_, rfl, p0, _, _, _, rfl, rfl, SqL.of (q7 _ _ hp0), e27, .inl ⟨_, rfl, _, _, rfl, rfl, by show (0 : Int) < 4; decide, ml, _, _, _, rfl, rfl, SqL.of y7, em, ?_⟩⟩
    have hp0 := q7 _ _ hp0
    have hp1 := q7 _ _ hp1
    have hp2 := q7 _ _ hp2
    have hn := q7 _ _ hn
    have hh := q7 _ _ hh
    have hS7 := q7.seq hS6
    clear q7 y7 n1 hS6
    refine ⟨_, rfl, _, rfl, _, rfl, _, rfl, p0, _, _, _, rfl, rfl, SqL.of hp0, e26, .inl ⟨_, rfl, _, _, rfl, rfl, by show (0 : Int) < 7; decide, _, rfl, n, h, p0, cs, hs, q0, _, _, rfl, SqL.of hn, SqL.of hh, SqL.of hp0, by omega, m0, by omega, nd, cl, hperm, fun r ts0 rs0 H8 s8 hr0 hr8 hRw hrl0 => ?_⟩⟩
    refine ⟨_, rfl, _, rfl, _, rfl, a, _, rfl, s8.seq hS7, fun cc hc0 => ?_⟩
    rw [ey]
    have hrc : r ≠ cc := ne_of_none hr8 hc0
    have s9 := same_new (o := .lst (ys3.map V.int)) hc0
    refine ⟨cc, rfl, ⟨_, SqL.of upd_same⟩, for_it walk_list (fun i σ Hx => Same H7 Hx ∧ Hx cc = some (.lst (ys3.map V.int)) ∧ ∃ (ts : List Addr) (rs : List (List Str)) (u9 : Option V), σ = [some (.ref a), some (.ref p0), some (.ref p1), some (.ref p2), some (.int (sz : Nat)), some (.ref n), some (.ref h), some (.int md), some (.ref r), u9, none, none, none, none, none, none, none, none, none, none, none, none, none, none, none, none, none, none, none, none] ∧ Hx r = some (.lst (ts.map V.ref)) ∧ Rows Hx r ts cs rs ∧ rs.length ≤ 6 + i)
      ⟨s8.trans s9, upd_same, ts0, rs0, none, rfl, s9 _ _ hr8, ⟨hRw.1.same s9, hRw.2⟩, by omega⟩ (fun i σ Hx _ q => SqL.of q.2.1) ?_ ?_⟩
    · rintro i x σ H80 H8 hi ⟨sm, hc8, ts, rs, u9, rfl, hr8, hRw, hrl⟩ ⟨rfl, hx⟩
      have hx : (ys3.map V.int)[i]? = some x := hx
      have hi : i < ys3.length := by rw [List.length_map] at hi; exact hi
      rw [List.getElem?_map, List.getElem?_eq_getElem hi] at hx
      cases hx
      refine ⟨_, rfl, .inl ⟨rfl, _, SqL.of hr8⟩, _, rfl, _, rfl, _, rfl, _, rfl, _, rfl, rfl, n, h, cs, hs, _, _, rfl, SqL.of (sm _ _ hn), SqL.of (sm _ _ hh), nd, cl, hperm, fun t ms H9 s9 ht0 ht ok => ?_⟩
      refine ⟨r, _, _, rfl, rfl, s9 _ _ hr8, small_int (by rw [List.length_map, hRw.1.len]; omega), fun x u e => ?_, ?_, ts ++ [t], rs ++ [ms], _, rfl, ?_, hRw.push s9 ht (ne_of_none hr8 ht0).symm ok, by rw [List.length_append]; show rs.length + 1 ≤ 6 + (i + 1); omega⟩
      · rw [upd_ne (ne_of_none e hr0)]; exact s9 _ _ (sm _ _ e)
      · rw [upd_ne hrc.symm]; exact s9 _ _ hc8
      · rw [List.map_append]; exact upd_same
    rintro σ H9 ⟨sm, hc8, rts, rs, u9, rfl, hr9, hRw, hrl⟩
    have hrl : rs.length ≤ 9 := by
      have hrl : rs.length ≤ 6 + (ys3.map V.int).length := hrl
      rw [List.length_map] at hrl; omega
    obtain ⟨hR, _, hRow⟩ := hRw
    have hp1 := sm _ _ hp1
    have hp2 := sm _ _ hp2
    have hn := sm _ _ hn
    have hh := sm _ _ hh
    clear sm hp0 hS7 s8 s9 hc8 hr8 hc0 hrc hr0 ey hrl0
    refine ⟨_, rfl, _, rfl, p1, q1, 0, sz, rfl, SqL.of hp1, by decide, by omega, by omega, fun Y yrs Ha sa _ hY hyl hYrs => ?_⟩
    have hp1 := sa _ _ hp1
    have hp2 := sa _ _ hp2
    have hn := sa _ _ hn
    have hh := sa _ _ hh
    have hr := sa _ _ hr9
    have hR := hR.same sa
    clear sa hr9
    have hyl' : yrs.length = hs.length := by rw [hyl, hperm.length_eq, hcl]
    refine ⟨_, rfl, _, rfl, _, rfl, _, rfl, _, rfl, p1, _, _, _, rfl, rfl, SqL.of hp1, f24, .inl ⟨_, rfl, _, _, rfl, rfl, by show (0 : Int) < 7; decide, _, rfl, p2, _, _, _, rfl, rfl, SqL.of hp2, g28, .inl ⟨_, rfl, _, _, rfl, rfl, by show (0 : Int) < 2; decide, rfl, h, Y, r, p1, hs, rts, rs, cs, yrs, q1, _, _, rfl, SqL.of hh, SqL.of hY, SqL.of hr, hR.lsa, SqL.of hp1, P1, by omega, c0, by omega, hRow, hperm, hYrs, hyl', hl12, by omega, fun td tts tss Hb sb _ htd htl htn hto => ?_⟩⟩⟩
    have hp1 := sb _ _ hp1
    have hp2 := sb _ _ hp2
    have hn := sb _ _ hn
    have hh := sb _ _ hh
    have hr := sb _ _ hr
    have hY := sb _ _ hY
    have hR := hR.same sb
    clear sb
    refine ⟨fun σ Hx => Same Hb Hx ∧ ∃ (t : Addr) (ts : List Addr) (ss : List TSp), σ = [some (.ref a), some (.ref p0), some (.ref p1), some (.ref p2), some (.int (sz : Nat)), some (.ref n), some (.ref h), some (.int md), some (.ref r), u9, some (.ref Y), some (.ref t), none, none, none, none, none, none, none, none, none, none, none, none, none, none, none, none, none, none] ∧ Hx t = some (.lst (ts.map V.ref)) ∧ Tl (SqT K) Hx ts ss ∧ ss.length ≤ 6 ∧ ∀ s ∈ ss, okSpan cs rs s = true, ?_, ?_⟩
    · refine ⟨_, rfl, p2, _, _, _, rfl, rfl, SqL.of hp2, g29, .inl ⟨_, rfl, _, _, rfl, rfl, by show (0 : Int) < 3; decide, rfl, _, rfl, ite2 (fun hb => ?_) (fun hb => ⟨Same.refl _, td, tts, tss, rfl, htd, htl, htn, hto⟩)⟩⟩
      exact ⟨_, rfl, _, rfl, _, rfl, p1, _, _, _, rfl, rfl, SqL.of hp1, f24, .inl ⟨_, rfl, _, _, rfl, rfl, by show (0 : Int) < 7; decide, r, p1, rts, rs, cs, q1, _, rfl, SqL.of hr, hR.lsa, SqL.of hp1, P1, by omega, c0, by omega, hRow, by omega, fun td2 ts2 ss2 Hc sc _ h1 h2 h3 h4 => ⟨sc, td2, ts2, ss2, rfl, h1, h2, h3, h4⟩⟩⟩
    clear htd htl htn hto
    rintro σ Hc ⟨sc, td, tts, tss, rfl, htd, htl, htn, hto⟩
    have hp2 := sc _ _ hp2
    have hn := sc _ _ hn
    have hh := sc _ _ hh
    have hr := sc _ _ hr
    have hY := sc _ _ hY
    have hR := hR.same sc
    clear sc hp1
    have hsl12 : hs.length ≤ 12 := hl12
    have l2' : q2.length = 60 := by omega
    refine ⟨_, rfl, _, rfl, _, rfl, h, n, p2, hs, cs, q2, rfl, hh, SqL.of hn, hg, hperm, cl, SqL.of hp2, l2', fun od Hd sd ⟨os, hod, hog, hol⟩ => ?_⟩
    refine ⟨_, rfl, _, rfl, Y, p2, yrs, q2, rfl, sd _ _ hY, by omega, SqL.of (sd _ _ hp2), l2', fun lo He se ⟨ls, hlo, hll⟩ => ?_⟩
    have sde := sd.trans se
    have hod := se _ _ hod
    have hp2 := sde _ _ hp2
    have hn := sde _ _ hn
    have hh := sde _ _ hh
    have hr := sde _ _ hr
    have hY := sde _ _ hY
    have htd := sde _ _ htd
    have hR := hR.same sde
    have htl := htl.imp fun t s z => sde.tup z
    clear sd se sde
    -- handed
    refine ⟨_, rfl, n, _, rfl, .inl (SqL.of hn), fun d1 n1 => ?_⟩
    generalize hG : upd He d1 _ = F1
    have a1 : Same He F1 := hG ▸ same_new n1
    have b1 := (congrFun hG d1).symm.trans upd_same
    clear hG
    refine ⟨_, rfl, r, rfl, ⟨_, SqL.of (a1 _ _ hr)⟩, fun D hD => lc_it walk_list (fun i H8 => LcL F1 D (rs.take i) H8) (lcl0 hD) (fun i H8 _ q => (a1.trans q.1).seq (SqL.of hr)) ?_ ?_⟩
    · rintro i x H80 H8 hi q8 ⟨rfl, hx⟩
      obtain ⟨c, hc, rfl⟩ := refs_get hx
      obtain ⟨y, hy, ho8⟩ := ((hR.same a1).same q8.1).get hc
      refine ⟨rfl, _, rfl, c, _, rfl, .inl (SqL.of ho8), fun a' ha' => ?_⟩
      rw [take_succ hy]
      exact q8.new hD ha' (by rw [List.length_take]; omega)
    rintro F2 ⟨a2, dts, b2, hDl, _⟩
    rw [List.length_map, hR.len, List.take_length] at hDl
    have a12 := a1.trans a2
    refine ⟨_, rfl, od, _, rfl, .inl (SqL.of (a12 _ _ hod)), fun d3 n3 => ?_⟩
    generalize hG : upd F2 d3 _ = F3
    have a3 : Same F2 F3 := hG ▸ same_new n3
    have b3 := (congrFun hG d3).symm.trans upd_same
    clear hG
    have a13 := a12.trans a3
    refine ⟨_, rfl, lo, _, rfl, .inl (SqL.of (a13 _ _ hlo)), fun d4 n4 => ?_⟩
    generalize hG : upd F3 d4 _ = F4
    have a4 : Same F3 F4 := hG ▸ same_new n4
    have b4 := (congrFun hG d4).symm.trans upd_same
    clear hG
    have a14 := a13.trans a4
    refine ⟨_, rfl, h, _, rfl, .inl (SqL.of (a14 _ _ hh)), fun d5 n5 => ?_⟩
    generalize hG : upd F4 d5 _ = F5
    have a5 : Same F4 F5 := hG ▸ same_new n5
    have b5 := (congrFun hG d5).symm.trans upd_same
    clear hG
    have a15 := a14.trans a5
    refine ⟨_, rfl, Y, _, rfl, .inl (SqL.of (a15 _ _ hY)), fun d6 n6 => ?_⟩
    generalize hG : upd F5 d6 _ = F6
    have a6 : Same F5 F6 := hG ▸ same_new n6
    have b6 := (congrFun hG d6).symm.trans upd_same
    clear hG
    have a16 := a15.trans a6
    refine ⟨by show 6 ≤ sizeLine; decide, fun hd n7 => ?_⟩
    generalize hG : upd F6 hd _ = F7
    have a7 : Same F6 F7 := hG ▸ same_new n7
    have b7 := (congrFun hG hd).symm.trans upd_same
    clear hG
    have a17 := a16.trans a7
    have b1 := (a2.trans (a3.trans (a4.trans (a5.trans (a6.trans a7))))) _ _ b1
    have b2 := (a3.trans (a4.trans (a5.trans (a6.trans a7)))) _ _ b2
    have hDl := hDl.same (a3.trans (a4.trans (a5.trans (a6.trans a7))))
    have b3 := (a4.trans (a5.trans (a6.trans a7))) _ _ b3
    have b4 := (a5.trans (a6.trans a7)) _ _ b4
    have b5 := (a6.trans a7) _ _ b5
    have b6 := a7 _ _ b6
    have hod := a17 _ _ hod
    have hlo := a17 _ _ hlo
    have hp2 := a17 _ _ hp2
    have hn := a17 _ _ hn
    have hh := a17 _ _ hh
    have hr := a17 _ _ hr
    have hY := a17 _ _ hY
    have htd := a17 _ _ htd
    have hR := hR.same a17
    have htl := htl.imp fun t s z => a17.tup z
    clear a1 a2 a3 a4 a5 a6 a7 a12 a13 a14 a15 a16 a17 n1 n3 n4 n5 n6 n7 hD
    have c0' : atI ([V.ref d1, .ref D, .ref d3, .ref d4, .ref d5, .ref d6] : List V) 0 = some (V.ref d1) := atI_nat (j := 0) rfl
    have c1' : atI ([V.ref d1, .ref D, .ref d3, .ref d4, .ref d5, .ref d6] : List V) 1 = some (V.ref D) := atI_nat (j := 1) rfl
    have c2' : atI ([V.ref d1, .ref D, .ref d3, .ref d4, .ref d5, .ref d6] : List V) 2 = some (V.ref d3) := atI_nat (j := 2) rfl
    have c3' : atI ([V.ref d1, .ref D, .ref d3, .ref d4, .ref d5, .ref d6] : List V) 3 = some (V.ref d4) := atI_nat (j := 3) rfl
    have c4' : atI ([V.ref d1, .ref D, .ref d3, .ref d4, .ref d5, .ref d6] : List V) 4 = some (V.ref d5) := atI_nat (j := 4) rfl
    have c5' : atI ([V.ref d1, .ref D, .ref d3, .ref d4, .ref d5, .ref d6] : List V) 5 = some (V.ref d6) := atI_nat (j := 5) rfl
    refine ⟨_, rfl, hd, _, _, _, rfl, rfl, SqL.of b7, c0', _, rfl, hd, _, _, _, rfl, rfl, SqL.of b7, c1', ?_⟩
    dsimp only [tNil]
    refine fun tb dx hx hdx hne => mk_table2 (.inl (SqL.of b1)) (SqL.of b2) hDl.lsa hok (by omega) (fun x hx => ⟨(hRow x hx).stray, by have := (hRow x hx).len; omega⟩) hx hdx hne fun F8 s8 hT => ⟨rfl, ?_⟩
    refine ⟨_, rfl, td, _, rfl, .inl (SqL.of (s8 _ _ htd)), fun pa n9 => ?_⟩
    have n9' := n9
    generalize hG : upd F8 pa _ = F9
    have a9 : Same F8 F9 := hG ▸ same_new n9
    have b9 := (congrFun hG pa).symm.trans upd_same
    clear hG
    have s9 := s8.trans a9
    refine ⟨_, rfl, _, rfl, fun sp dx2 hx2 hdx2 hne2 => mk_spans (hT.same a9) (by omega) (SqL.of b9) (htl.imp fun t s z => .inr (s9.tup z)) (by omega) hto hx2 hdx2 hne2 fun F10 s10 hSp => ⟨rfl, ?_⟩⟩
    have s10' := s9.trans s10
    have htl10 := htl.imp fun t s z => s10'.tup z
    refine ⟨_, rfl, _, rfl, .list (pds tss), .list (pds tss), .lst (SqL.of (s10 _ _ b9)) (dp_tl htl10), .lst (SqL.of (s10' _ _ htd)) (dp_tl htl10), shL_pds _, shL_pds _, _, rfl, ifF (by rw [eqvL (lay_pds _)]; rfl) ?_⟩
    refine ⟨_, rfl, .inl ⟨rfl, _, SqL.of (s10 _ _ b9)⟩, _, rfl, r, _, rfl, .inl (SqL.of (s10' _ _ hr)), by show 3 ≤ sizeLine; decide, fun tx to_ n11 _ => ?_⟩
    generalize hG : upd F10 tx _ = F11
    have a11 : Same F10 F11 := hG ▸ same_new n11
    have b11 := (congrFun hG tx).symm.trans upd_same
    clear hG
    have hpa := a11 _ _ (s10 _ _ b9)
    refine ⟨pa, _, _, rfl, rfl, hpa, small_int (by rw [List.length_map, htl.len]; omega), ?_⟩
    have hSp := (hSp.same a11).updL (o := .lst (tts.map V.ref ++ [V.ref tx])) hpa
    have s12 : Same F8 (upd F11 pa (.lst (tts.map V.ref ++ [V.ref tx]))) := fun b o e => by
      rw [upd_ne (ne_of_none e n9')]; exact a11 _ _ (s10 _ _ (a9 _ _ e))
    generalize upd F11 pa _ = F12 at hSp s12 ⊢
    have s12' := s8.trans s12
    have hT := hT.same s12
    have b1 := s12' _ _ b1
    have b2 := s12' _ _ b2
    have hDl := hDl.same s12'
    have b3 := s12' _ _ b3
    have b4 := s12' _ _ b4
    have b5 := s12' _ _ b5
    have b6 := s12' _ _ b6
    have b7 := s12' _ _ b7
    have hod := s12' _ _ hod
    have hlo := s12' _ _ hlo
    have hp2 := s12' _ _ hp2
    have hn := s12' _ _ hn
    have hh := s12' _ _ hh
    have hr := s12' _ _ hr
    have hY := s12' _ _ hY
    have htd := s12' _ _ htd
    have hR := hR.same s12'
    have htl := htl.imp fun t s z => s12'.tup z
    clear s8 a9 b9 s9 s10 s10' htl10 a11 b11 hpa s12 s12' n9' n9 n11 hx hdx hne hx2 hdx2 hne2
    -- the object itself
    obtain ⟨dxs, ut, us, hsp, _, hut, hul⟩ := id hSp
    refine ⟨_, rfl, _, _, _, _, _, rfl, hsp, T.cl_Spans, T.n_Spans_told, fldsS_told _ _, _, _, _, _, true, rfl, .ty _, .base (.tup hut), kit_ty (by decide +kernel), true, rfl, ifF rfl ?_⟩
    refine ⟨_, rfl, _, _, _, _, _, rfl, hsp, T.cl_Spans, T.n_Spans_told, fldsS_told _ _, _, rfl, td, _, rfl, .inl ⟨SqL.of htd, fun lt to2 n12 _ => ?_⟩⟩
    generalize hG : upd F12 lt _ = F13
    have a13 : Same F12 F13 := hG ▸ same_new n12
    have b13 := (congrFun hG lt).symm.trans upd_same
    clear hG
    refine ⟨.tuple (pds tss), .tuple (pds tss), .tup (SqT.of (a13 _ _ hut)) (dp_tl (hul.imp fun t s z => a13.tup z)), .tup (.inl (.inr ⟨_, b13⟩)) (dp_tl (htl.imp fun t s z => a13.tup z)), shT_pds _, shT_pds _, _, rfl, ifF (by rw [eqvT (lay_pds _)]; rfl) ?_⟩
    have hsp13 := a13 _ _ hsp
    have hT13 := hT.same a13
    obtain ⟨dxt, ct, rt, tts2, ht1, _⟩ := id hT13
    refine ⟨_, rfl, _, _, _, _, _, rfl, hsp13, T.cl_Spans, T.n_Spans_table, fldsS_table _ _, _, rfl, tb, tb, dxt, dxt, _, _, rfl, rfl, ht1, ht1, tb, tb, cs, rs, rfl, hT13, hT13, hg, ?_⟩
    refine ⟨_, rfl, ifF rfl ?_⟩
    clear hsp13 ht1 hul hut hsp
    -- the rows one by one
    refine ⟨_, rfl, _, rfl, n, rfl, ⟨_, SqL.of (a13 _ _ hn)⟩, fun E1 nE => lc_it walk_list (fun i H8 => LcL F13 E1 ((cs.map fun z => [z]).take i) H8) (lcl0 nE) (fun i H8 _ q => (a13.trans q.1).seq (SqL.of hn)) ?_ ?_⟩
    · rintro i x H80 H8 hi q8 ⟨rfl, hx⟩
      obtain ⟨z, hz, rfl⟩ := sv_get hx
      have hz1 : (cs.map fun z => [z])[i]? = some [z] := by rw [List.getElem?_map, hz]; rfl
      refine ⟨rfl, _, rfl, by show 1 ≤ sizeLine; decide, fun a' ha' => ?_⟩
      rw [take_succ hz1]
      exact q8.new (y := [z]) nE ha' (by rw [List.length_take, List.length_map]; omega)
    rintro F14 ⟨a14, ets, e14, hEl, _⟩
    rw [len_sv, show cs.length = (cs.map fun z => [z]).length by rw [List.length_map], List.take_length] at hEl
    have a1314 := a13.trans a14
    refine catO (a1314 _ _ hr) e14 (by rw [List.length_map, List.length_map, hR.len, hEl.len, List.length_map]; omega) fun RL F15 a15 n15 b15 => ?_
    have s15 := a1314.trans a15
    obtain ⟨rr, err⟩ : ∃ rr : List (List Str), rr = rs ++ cs.map fun z => [z] := ⟨_, rfl⟩
    have hRR : LsA K F15 (rts ++ ets) rr := by
      rw [err]
      refine ⟨by rw [List.length_append, List.length_append, hR.len, hEl.len], fun i t x e1 e2 => ?_⟩
      by_cases hi : i < rts.length
      · rw [List.getElem?_append_left hi] at e1
        rw [List.getElem?_append_left (by rw [← hR.len]; exact hi)] at e2
        exact .inl (SqL.of (s15 _ _ (hR.at_ i t x e1 e2)))
      · rw [List.getElem?_append_right (by omega)] at e1
        rw [List.getElem?_append_right (by rw [← hR.len]; omega), ← hR.len] at e2
        exact .inl (SqL.of (a15 _ _ (hEl.at_ _ t x e1 e2)))
    have hRRl : ∀ (i : Nat) (t : Addr) (x : List Str), (rts ++ ets)[i]? = some t → rr[i]? = some x → F15 t = some (.lst (sv x)) := fun i t x e1 e2 => by
      rw [err] at e2
      by_cases hi : i < rts.length
      · rw [List.getElem?_append_left hi] at e1
        rw [List.getElem?_append_left (by rw [← hR.len]; exact hi)] at e2
        exact s15 _ _ (hR.at_ i t x e1 e2)
      · rw [List.getElem?_append_right (by omega)] at e1
        rw [List.getElem?_append_right (by rw [← hR.len]; omega), ← hR.len] at e2
        exact a15 _ _ (hEl.at_ _ t x e1 e2)
    have hrow : ∀ x ∈ rr, RowOk cs x := fun x hx => by
      rw [err] at hx
      rcases List.mem_append.mp hx with h | h
      · exact hRow x h
      · obtain ⟨z, hz, rfl⟩ := List.mem_map.mp h
        exact ⟨by simp, fun y hy => by rw [List.mem_singleton.mp hy]; exact hz⟩
    rw [← List.map_append] at b15
    generalize rts ++ ets = rt2 at b15 hRR hRRl
    have hT := hT.same s15
    have hSp := hSp.same s15
    have b1 := s15 _ _ b1
    have b2 := s15 _ _ b2
    have hDl := hDl.same s15
    have b3 := s15 _ _ b3
    have b4 := s15 _ _ b4
    have b5 := s15 _ _ b5
    have b6 := s15 _ _ b6
    have b7 := s15 _ _ b7
    have hod := s15 _ _ hod
    have hlo := s15 _ _ hlo
    have hp2 := s15 _ _ hp2
    have hn := s15 _ _ hn
    have hh := s15 _ _ hh
    have hr := s15 _ _ hr
    have hY := s15 _ _ hY
    have htd := s15 _ _ htd
    have hR := hR.same s15
    have htl := htl.imp fun t s z => s15.tup z
    clear s15 a13 a14 a1314 a15 n15 e14 hEl nE n12 b13 hT13
    refine ⟨RL, rfl, ⟨_, SqL.of b15⟩, for_it walk_list (fun i σ H2 => Same F15 H2 ∧ ∃ u18 u19 u20 : Option V, σ = [some (.ref a), some (.ref p0), some (.ref p1), some (.ref p2), some (.int (sz : Nat)), some (.ref n), some (.ref h), some (.int md), some (.ref r), u9, some (.ref Y), some (.ref td), some (.ref od), some (.ref lo), some (.ref hd), some (.ref tb), some (.ref pa), some (.ref sp), u18, u19, u20, none, none, none, none, none, none, none, none, none]) ⟨Same.refl _, none, none, none, rfl⟩ (fun i σ H2 _ q => q.1.seq (SqL.of b15)) ?_ ?_⟩
    · rintro i x σ H20 H2 hi ⟨sm, u18, u19, u20, rfl⟩ ⟨rfl, hx⟩
      obtain ⟨t, et, rfl⟩ := refs_get hx
      obtain ⟨row, er, _⟩ := hRR.get et
      have ht := sm _ _ (hRRl i t row et er)
      have okr := hrow row (List.mem_of_getElem? er)
      refine ⟨_, rfl, t, _, rfl, .inl (SqL.of ht), _, _, rfl, rfl, _, rfl, ?_⟩
      by_cases h0 : 0 < row.length
      · refine itY (by rw [len_sv]; omega) ?_
        have hin : ∀ z ∈ row, z ∈ hs := fun z hz => hperm.mem_iff.mpr (okr.2 z hz)
        have hrl2 := okr.len
        have hcn := canon_ne okr h0
        have hpn : plc (flags hs row) ≠ [] := plc_ne hperm hcn
        have hd2 := sm _ _ b7
        refine ⟨_, rfl, hd, _, _, _, rfl, rfl, SqL.of hd2, c4', _, rfl, hd, _, _, _, rfl, rfl, SqL.of hd2, c5', _, rfl, _, rfl, _, rfl, slO (SqL.of ht) fun sl G1 g1 _ hsl => ?_⟩
        have hsl : G1 sl = some (.lst (sv (row.take 1))) := by
          rw [hsl, show (1 : Int) = ((1 : Nat) : Int) from rfl, cut_takeG, sv_take]
        refine catO (g1 _ _ ht) hsl (by rw [len_sv, len_sv, List.length_take]; omega) fun rw2 G2 g2 _ hrw => ?_
        have hrw : G2 rw2 = some (.lst (sv (row ++ row.take 1))) := by rw [hrw, sv_app]
        have sg := sm.trans (g1.trans g2)
        have hflag : flags hs (row ++ row.take 1) = flags hs row := by
          unfold flags
          refine List.map_congr_left fun z _ => decide_eq_decide.mpr ⟨fun q => ?_, fun q => List.mem_append.mpr (.inl q)⟩
          rcases List.mem_append.mp q with q | q
          · exact q
          · exact List.mem_of_mem_take q
        refine ⟨d5, d6, rw2, hs, row ++ row.take 1, yrs, rfl, SqL.of (sg _ _ b5), SqL.of (sg _ _ b6), SqL.of hrw, by omega, by rw [List.length_append, List.length_take]; omega, by omega, ndh, fun q => by rw [List.append_eq_nil_iff] at q; rw [q.1] at h0; exact absurd h0 (by decide), fun z hz => ?_, fun f g aa bb G3 hf hgl haa hbb g3 => ?_⟩
        · rcases List.mem_append.mp hz with q | q
          · exact hin z q
          · exact hin z (List.mem_of_mem_take q)
        rw [hflag] at hf hgl
        have et1 := timeZ_at hf hgl haa hbb
        have sg3 := sg.trans g3
        refine ⟨_, rfl, _, rfl, _, rfl, h, Y, t, hs, row, yrs, rfl, SqL.of (sg3 _ _ hh), SqL.of (sg3 _ _ hY), .inl (SqL.of ((g1.trans (g2.trans g3)) _ _ ht)), by omega, by omega, hpn, fun f2 g2' a2 b2' G4 hf2 hgl2 ha2 hb2 g4 => ?_⟩
        have et2 := timeZ_at hf2 hgl2 ha2 hb2
        have sg4 := sg3.trans g4
        have eT : bb - aa = b2' - a2 := et1.symm.trans et2
        rw [eT]
        refine ⟨_, rfl, _, rfl, _, rfl, (b2' - a2 : Int), (b2' - a2 : Int), (b2' - a2 : Int), rfl, ?_⟩
        rw [decide_eq_true (show b2' - a2 ≤ b2' - a2 ∧ b2' - a2 ≤ b2' - a2 from ⟨Int.le_refl _, Int.le_refl _⟩)]
        refine ⟨_, rfl, ifF rfl ?_⟩
        refine ⟨_, rfl, h, _, rfl, .inl ⟨SqL.of (sg4 _ _ hh), fun th o1 m1 od1 => ?_⟩⟩
        generalize hG : upd G4 th _ = G5
        have g5 : Same G4 G5 := hG ▸ same_new m1
        have c5 := (congrFun hG th).symm.trans upd_same
        clear hG
        refine ⟨_, rfl, Y, _, rfl, .inl ⟨SqL.of ((sg4.trans g5) _ _ hY), fun ty o2 m2 od2 => ?_⟩⟩
        generalize hG : upd G5 ty _ = G6
        have g6 : Same G5 G6 := hG ▸ same_new m2
        have c6 := (congrFun hG ty).symm.trans upd_same
        clear hG
        refine ⟨_, rfl, t, _, rfl, .inl ⟨SqL.of ((g1.trans (g2.trans (g3.trans (g4.trans (g5.trans g6))))) _ _ ht), fun tr o3 m3 od3 => ?_⟩⟩
        generalize hG : upd G6 tr _ = G7
        have g7 : Same G6 G7 := hG ▸ same_new m3
        have c7 := (congrFun hG tr).symm.trans upd_same
        clear hG
        refine ⟨th, ty, tr, hs, row, yrs, rfl, ⟨o1, od1, (g6.trans g7) _ _ c5⟩, .inl (.inr ⟨o2, g7 _ _ c6⟩), .inl (.inr ⟨o3, c7⟩), by omega, by omega, by omega, ndh, List.length_pos_iff.mp h0, hin, fun f3 g3' a3 b3' G8 hf3 hgl3 ha3 hb3 g8 => ?_⟩
        have et3 := timeZ_at hf3 hgl3 ha3 hb3
        have eT3 : b3' - a3 = b2' - a2 := et3.symm.trans et2
        rw [eT3]
        exact ⟨_, rfl, rfl, _, rfl, itNe rfl ⟨sg4.trans (g5.trans (g6.trans (g7.trans g8))), _, _, _, rfl⟩⟩
      · exact itN (by rw [len_sv]; omega) ⟨sm, _, _, _, rfl⟩
    rintro σ G ⟨sm, u18, u19, u20, rfl⟩
    have b1 := sm _ _ b1
    have b2 := sm _ _ b2
    have b3 := sm _ _ b3
    have b4 := sm _ _ b4
    have b5 := sm _ _ b5
    have b6 := sm _ _ b6
    have b7 := sm _ _ b7
    have hod := sm _ _ hod
    have hlo := sm _ _ hlo
    have hp2 := sm _ _ hp2
    have hn := sm _ _ hn
    have hh := sm _ _ hh
    have hr := sm _ _ hr
    have hY := sm _ _ hY
    have htd := sm _ _ htd
    have hT := hT.same sm
    have hSp := hSp.same sm
    have hDl := hDl.same sm
    have hR := hR.same sm
    have htl := htl.imp fun t s z => sm.tup z
    clear sm b15 hRR hRRl hrow
    have szs : sz = hs.length := by rw [hperm.length_eq, hcl]
    have ezt : (((sz : Nat) : Int)).toNat = sz := Int.toNat_natCast sz
    have gH : GLn G h 40 := ⟨hs, hh, fun z hz => hg z (hperm.mem_iff.mp hz), by omega⟩
    have gY : GI G Y 12 := ⟨yrs, hY, by omega⟩
    refine ⟨_, rfl, _, rfl, by omega, by omega, fun BK nBK => lc_range (n := (((sz : Nat) : Int)).toNat) (fun i H2 => Same G H2 ∧ ∃ zs : List Str, H2 BK = some (.lst (sv zs)) ∧ zs.length = i ∧ ∀ z ∈ zs, z ∈ hs) ⟨same_new nBK, [], upd_same, rfl, fun z h => nomatch h⟩ ?_ ?_⟩
    · rintro i H3 hi ⟨s3, zs, h3, hz, hin⟩
      rw [ezt] at hi
      have ll : (((sv hs).length : Nat) : Int) = (hs.length : Int) := by rw [len_sv]
      obtain ⟨x, hx, ex⟩ := atI_any (xs := sv hs) (j := ((sv hs).length : Int) - 1 - (0 + (i : Int))) (by omega) (by omega)
      obtain ⟨z, hz2, rfl⟩ := List.mem_map.mp hx
      refine ⟨rfl, _, rfl, _, rfl, h, _, rfl, .inl (s3.seq (SqL.of hh)), _, _, rfl, rfl, _, rfl, _, _, rfl, rfl, h, _, _, _, rfl, rfl, s3.seq (SqL.of hh), ex, ?_⟩
      exact ⟨_, h3, small_int (by rw [len_sv]; omega), fun b o e => by rw [upd_ne (ne_of_none e nBK)]; exact s3 _ _ e, zs ++ [z], by rw [upd_same]; show some (HO.lst (sv zs ++ [V.str z])) = some (HO.lst ((zs ++ [z]).map V.str)); rw [List.map_append]; rfl, by rw [List.length_append, hz]; rfl, fun y hy => (List.mem_append.mp hy).elim (hin y) (fun q => by rw [List.mem_singleton.mp q]; exact hz2)⟩
    rintro G1 ⟨g1, bzs, hbz, hbl, hbin⟩
    rw [ezt] at hbl
    have gBK : GLn G1 BK 40 := ⟨bzs, hbz, fun z hz => hg z (hperm.mem_iff.mp (hbin z hz)), by omega⟩
    refine ⟨_, rfl, _, rfl, by omega, by omega, fun TU nTU => lc_range (n := (((sz : Nat) : Int)).toNat) (fun i H2 => Same G1 H2 ∧ ∃ zs : List Int, H2 TU = some (.lst (ivs zs)) ∧ zs.length = i) ⟨same_new nTU, [], upd_same, rfl⟩ ?_ ?_⟩
    · rintro i H3 hi ⟨s3, zs, h3, hz⟩
      rw [ezt] at hi
      have ll : (((ivs yrs).length : Nat) : Int) = (yrs.length : Int) := by rw [ivs_len]
      obtain ⟨x, hx, ex⟩ := atI_any (xs := ivs yrs) (j := ((ivs yrs).length : Int) - 1 - (0 + (i : Int))) (by omega) (by omega)
      obtain ⟨z, hz2, rfl⟩ := List.mem_map.mp hx
      have hY3 := SqL.of (K := K) (s3 _ _ (g1 _ _ hY))
      refine ⟨rfl, _, _, rfl, rfl, ⟨by decide, by decide, by decide⟩, _, rfl, _, rfl, Y, _, rfl, .inl hY3, _, _, rfl, rfl, _, rfl, _, _, rfl, rfl, Y, _, _, _, rfl, rfl, hY3, ex, _, _, rfl, rfl, ?_⟩
      exact ⟨_, h3, small_int (by rw [ivs_len]; omega), fun b o e => by rw [upd_ne (ne_of_none e nTU)]; exact s3 _ _ e, zs ++ [_], by rw [upd_same]; show some (HO.lst (ivs zs ++ [V.int _])) = some (HO.lst ((zs ++ [_]).map V.int)); rw [List.map_append]; rfl, by rw [List.length_append, hz]; rfl⟩
    rintro G2 ⟨g2, tzs, htz, htl2⟩
    rw [ezt] at htl2
    have gTU : GI G2 TU 40 := ⟨tzs, htz, by omega⟩
    have g12 := g1.trans g2
    -- far
    refine ⟨_, rfl, _, rfl, _, rfl, slI (gY.same g12) fun fa G3 g3 gfa => ?_⟩
    refine ⟨_, rfl, _, rfl, _, rfl, ?_⟩
    dsimp only [tNoPart]
    refine slI ((gY.same g12).same g3) fun fb G4 g4 gfb => ?_
    obtain ⟨zc, ez, lz⟩ := id gfb
    refine ⟨fb, rfl, ⟨_, SqL.of ez⟩, fun D8 hD8 => lc_it walk_list (PvS G4 D8 fun i => ivs ((zc.take i).map fun t => t + 100000000)) (pv0 hD8 rfl) (fun i H2 _ q => q.1.seq (SqL.of ez)) ?_ ?_⟩
    · rintro i x H20 H2 hi q ⟨rfl, hx⟩
      obtain ⟨x, hx2, rfl⟩ := ivs_get hx
      exact ⟨rfl, _, rfl, _, _, rfl, rfl, ⟨by decide, by decide, by decide⟩, _, _, rfl, rfl, q.push hD8 (map_push (f := fun t => t + 100000000) hx2) (by rw [ivs_len, List.length_map, List.length_take]; omega)⟩
    rintro G5 ⟨g5, h58⟩
    have h58 : G5 D8 = some (.lst (ivs ((zc.take (ivs zc).length).map fun t => t + 100000000))) := h58
    rw [ivs_len, List.take_length] at h58
    have gD8 : GI G5 D8 12 := ⟨_, h58, by rw [List.length_map]; exact lz⟩
    refine catI (gfa.same (g4.trans g5)) gD8 (by decide) fun FA G6 g6 gFA => ?_
    have g16 := g12.trans (g3.trans (g4.trans (g5.trans g6)))
    have gFA := gFA.mono (show 12 + 12 ≤ 40 by decide)
    -- more
    refine ⟨_, rfl, _, rfl, by show 2 ≤ sizeLine; decide, fun k1 n1 => ?_⟩
    generalize hG : upd G6 k1 _ = G7
    have g7 : Same G6 G7 := hG ▸ same_new n1
    have j1 := (congrFun hG k1).symm.trans upd_same
    clear hG
    refine ⟨_, rfl, _, rfl, _, _, rfl, rfl, ⟨by decide, by decide, by decide⟩, by show 1 ≤ sizeLine; decide, fun k2 n2 => ?_⟩
    generalize hG : upd G7 k2 _ = G8
    have g8 : Same G7 G8 := hG ▸ same_new n2
    have j2 := (congrFun hG k2).symm.trans upd_same
    clear hG
    refine catI ((gY.same g16).same (g7.trans g8)) (show GI G8 k2 1 from ⟨[1000000], j2, by decide⟩) (by decide) fun yl G9 g9 gyl => ?_
    refine ⟨by show 2 ≤ sizeLine; decide, fun k3 n3 => ?_⟩
    generalize hG : upd G9 k3 _ = G10
    have g10 : Same G9 G10 := hG ▸ same_new n3
    have j3 := (congrFun hG k3).symm.trans upd_same
    clear hG
    refine ⟨by show 2 ≤ sizeLine; decide, fun MO n4 => ?_⟩
    generalize hG : upd G10 MO _ = G11
    have g11 : Same G10 G11 := hG ▸ same_new n4
    have j4 := (congrFun hG MO).symm.trans upd_same
    clear hG
    have g611 := g7.trans (g8.trans (g9.trans (g10.trans g11)))
    have pr1 : Pr G11 k1 := ⟨h, FA, 40, 40, (g8.trans (g9.trans (g10.trans g11))) _ _ j1, gH.same (g16.trans g611), gFA.same g611, by decide, by decide⟩
    have pr2 : Pr G11 k3 := ⟨h, yl, 40, 40, g11 _ _ j3, gH.same (g16.trans g611), (gyl.same (g10.trans g11)).mono (by decide), by decide, by decide⟩
    have gAll := g16.trans g611
    have b1 := gAll _ _ b1
    have b2 := gAll _ _ b2
    have b3 := gAll _ _ b3
    have b4 := gAll _ _ b4
    have b5 := gAll _ _ b5
    have b6 := gAll _ _ b6
    have b7 := gAll _ _ b7
    have hod := gAll _ _ hod
    have hlo := gAll _ _ hlo
    have hp2 := gAll _ _ hp2
    have hn := gAll _ _ hn
    have hh := gAll _ _ hh
    have hr := gAll _ _ hr
    have hY := gAll _ _ hY
    have htd := gAll _ _ htd
    have hT := hT.same gAll
    have hSp := hSp.same gAll
    have hDl := hDl.same gAll
    have hR := hR.same gAll
    have htl := htl.imp fun t s z => gAll.tup z
    have gBK := gBK.same (g2.trans (g3.trans (g4.trans (g5.trans (g6.trans g611)))))
    have gTU := gTU.same (g3.trans (g4.trans (g5.trans (g6.trans g611))))
    clear g1 g2 g12 g3 g4 g5 g6 g16 g7 g8 g9 g10 g11 g611 j1 j2 j3 n1 n2 n3 n4 gfa gfb gD8 h58 ez gFA gyl hbz htz nBK nTU hD8 gAll
    -- the pairs
    refine ⟨_, rfl, hd, _, _, _, rfl, rfl, SqL.of b7, c2', _, rfl, hd, _, _, _, rfl, rfl, SqL.of b7, c3', by show 2 ≤ sizeLine; decide, fun x1 n1 => ?_⟩
    generalize hG : upd G11 x1 _ = W1
    have w1 : Same G11 W1 := hG ▸ same_new n1
    have i1 := (congrFun hG x1).symm.trans upd_same
    clear hG
    refine ⟨_, rfl, hd, _, _, _, rfl, rfl, SqL.of (w1 _ _ b7), c4', _, rfl, hd, _, _, _, rfl, rfl, SqL.of (w1 _ _ b7), c5', by show 2 ≤ sizeLine; decide, fun x2 n2 => ?_⟩
    generalize hG : upd W1 x2 _ = W2
    have w2 : Same W1 W2 := hG ▸ same_new n2
    have i2 := (congrFun hG x2).symm.trans upd_same
    clear hG
    have w12 := w1.trans w2
    refine ⟨_, rfl, hd, _, _, _, rfl, rfl, SqL.of (w12 _ _ b7), c4', _, rfl, hd, _, _, _, rfl, rfl, SqL.of (w12 _ _ b7), c3', by show 2 ≤ sizeLine; decide, fun x3 n3 => ?_⟩
    generalize hG : upd W2 x3 _ = W3
    have w3 : Same W2 W3 := hG ▸ same_new n3
    have i3 := (congrFun hG x3).symm.trans upd_same
    clear hG
    refine ⟨_, rfl, _, rfl, by show 2 ≤ sizeLine; decide, fun x4 n4 => ?_⟩
    generalize hG : upd W3 x4 _ = W4
    have w4 : Same W3 W4 := hG ▸ same_new n4
    have i4 := (congrFun hG x4).symm.trans upd_same
    clear hG
    refine ⟨by show 4 ≤ sizeLine; decide, fun x5 n5 => ?_⟩
    generalize hG : upd W4 x5 _ = W5
    have w5 : Same W4 W5 := hG ▸ same_new n5
    have i5 := (congrFun hG x5).symm.trans upd_same
    clear hG
    have w15 := w12.trans (w3.trans (w4.trans w5))
    refine ⟨_, rfl, catO i5 (w15 _ _ j4) (by show 4 + 2 ≤ 1000000; decide) fun PL W6 w6 _ i6 => ?_⟩
    have w16 := w15.trans w6
    have hogL : GLn W6 d3 40 := ⟨os, w16 _ _ b3, hog, hol⟩
    have hlogL : GI W6 d4 40 := ⟨ls, w16 _ _ b4, hll⟩
    have h5L : GLn W6 d5 40 := ⟨hs, w16 _ _ b5, fun z hz => hg z (hperm.mem_iff.mp hz), by omega⟩
    have h6L : GI W6 d6 40 := ⟨yrs, w16 _ _ b6, by omega⟩
    have hall : ∀ q ∈ [x1, x2, x3, x4, k1, k3], Pr W6 q := by
      intro q hq
      rcases List.mem_cons.mp hq with rfl | hq
      · exact ⟨d3, d4, 40, 40, (w2.trans (w3.trans (w4.trans (w5.trans w6)))) _ _ i1, hogL, hlogL, by decide, by decide⟩
      rcases List.mem_cons.mp hq with rfl | hq
      · exact ⟨d5, d6, 40, 40, (w3.trans (w4.trans (w5.trans w6))) _ _ i2, h5L, h6L, by decide, by decide⟩
      rcases List.mem_cons.mp hq with rfl | hq
      · exact ⟨d5, d4, 40, 40, (w4.trans (w5.trans w6)) _ _ i3, h5L, hlogL, by decide, by decide⟩
      rcases List.mem_cons.mp hq with rfl | hq
      · exact ⟨BK, TU, 40, 40, (w5.trans w6) _ _ i4, gBK.same w16, gTU.same w16, by decide, by decide⟩
      rcases List.mem_cons.mp hq with rfl | hq
      · exact pr1.same w16
      rw [List.mem_singleton.mp hq]
      exact pr2.same w16
    have i6 : W6 PL = some (.lst ([x1, x2, x3, x4, k1, k3].map V.ref)) := i6
    have b1 := w16 _ _ b1
    have b2 := w16 _ _ b2
    have b3 := w16 _ _ b3
    have b4 := w16 _ _ b4
    have b5 := w16 _ _ b5
    have b6 := w16 _ _ b6
    have b7 := w16 _ _ b7
    have hod := w16 _ _ hod
    have hlo := w16 _ _ hlo
    have hp2 := w16 _ _ hp2
    have hn := w16 _ _ hn
    have hh := w16 _ _ hh
    have hr := w16 _ _ hr
    have hY := w16 _ _ hY
    have htd := w16 _ _ htd
    have hT := hT.same w16
    have hSp := hSp.same w16
    have hDl := hDl.same w16
    have hR := hR.same w16
    have htl := htl.imp fun t s z => w16.tup z
    clear w1 w2 w3 w4 w5 w6 w12 w15 w16 i1 i2 i3 i4 i5 n1 n2 n3 n4 n5 pr1 pr2 gBK gTU hogL hlogL h5L h6L j4
    refine ⟨PL, rfl, ⟨_, SqL.of i6⟩, for_it walk_list (fun i σ H2 => Same W6 H2 ∧ ∃ v20 v25 v26 : Option V, σ = [some (.ref a), some (.ref p0), some (.ref p1), some (.ref p2), some (.int (sz : Nat)), some (.ref n), some (.ref h), some (.int md), some (.ref r), u9, some (.ref Y), some (.ref td), some (.ref od), some (.ref lo), some (.ref hd), some (.ref tb), some (.ref pa), some (.ref sp), u18, u19, v20, some (.ref BK), some (.ref TU), some (.ref FA), some (.ref MO), v25, v26, none, none, none]) ⟨Same.refl _, _, _, _, rfl⟩ (fun i σ H2 _ q => q.1.seq (SqL.of i6)) ?_ ?_⟩
    · rintro i x σ H20 H2 hi ⟨sm, v20, v25, v26, rfl⟩ ⟨rfl, hx⟩
      obtain ⟨q, hq, rfl⟩ := refs_get (ts := [x1, x2, x3, x4, k1, k3]) hx
      obtain ⟨o, yy, na, ma, hq2, ⟨nn, ho, _, hnl⟩, ⟨yl', hy, hyl2⟩, hna, hma⟩ := (hall q (List.mem_of_getElem? hq)).same sm
      have z0 : atI [V.ref o, .ref yy] 0 = some (V.ref o) := atI_nat (j := 0) rfl
      have z1 : atI [V.ref o, .ref yy] 1 = some (V.ref yy) := atI_nat (j := 1) rfl
      refine ⟨_, rfl, _, rfl, _, rfl, _, rfl, q, _, _, _, rfl, rfl, SqL.of hq2, z0, _, rfl, q, _, _, _, rfl, rfl, SqL.of hq2, z1, n, r, td, o, yy, cs, rs, rts, tts, tss, nn, yl', rfl, SqL.of (sm _ _ hn), SqL.of (sm _ _ hr), (hR.same sm).lsa, SqL.of (sm _ _ htd), htl.imp (fun t s z => sm.tup z), SqL.of ho, SqL.of hy, by omega, by omega, by omega, nd, hto, fun dq H3 sd hdq => ?_⟩
      have s3 := sm.trans sd
      refine ⟨_, rfl, _, rfl, q, _, _, _, rfl, rfl, SqL.of (sd _ _ hq2), z0, _, rfl, q, _, _, _, rfl, rfl, SqL.of (sd _ _ hq2), z1, sp, tb, o, yy, cs, rs, tss, nn, yl', rfl, hSp.same s3, SqL.of (sd _ _ ho), SqL.of (sd _ _ hy), by omega, by omega, by omega, by omega, hok, hto, fun f1 fl1 H5 sf hf1 hfl1 => ?_⟩
      have s5 := sd.trans sf
      refine ⟨_, rfl, _, rfl, q, _, _, _, rfl, rfl, SqL.of (s5 _ _ hq2), z0, o, _, rfl, .inl ⟨SqL.of (s5 _ _ ho), fun t1 o1 m1 od1 => ?_⟩⟩
      generalize hG : upd H5 t1 _ = H6
      have y6 : Same H5 H6 := hG ▸ same_new m1
      have k6 := (congrFun hG t1).symm.trans upd_same
      clear hG
      have s6 := s5.trans y6
      refine ⟨_, rfl, q, _, _, _, rfl, rfl, SqL.of (s6 _ _ hq2), z1, yy, _, rfl, .inl ⟨SqL.of (s6 _ _ hy), fun t2 o2 m2 od2 => ?_⟩⟩
      generalize hG : upd H6 t2 _ = H7
      have y7 : Same H6 H7 := hG ▸ same_new m2
      have k7 := (congrFun hG t2).symm.trans upd_same
      clear hG
      have s7 := s6.trans y7
      refine ⟨sp, tb, t1, t2, cs, rs, tss, nn, yl', rfl, hSp.same (sm.trans s7), ⟨o1, od1, y7 _ _ k6⟩, .inl (.inr ⟨o2, k7⟩), by omega, by omega, by omega, by omega, hok, hto, fun f2 fl2 H8 sg hf2 hfl2 => ?_⟩
      refine ⟨by show 2 ≤ sizeLine; decide, fun FL m8 => ?_⟩
      generalize hG : upd H8 FL _ = H9
      have y9 : Same H8 H9 := hG ▸ same_new m8
      have k9 := (congrFun hG FL).symm.trans upd_same
      clear hG
      have s9 := s7.trans (sg.trans y9)
      have f19 := (y6.trans (y7.trans (sg.trans y9))) _ _ hf1
      have fl19 := (y6.trans (y7.trans (sg.trans y9))) _ _ hfl1
      have f29 := y9 _ _ hf2
      have fl29 := y9 _ _ hfl2
      have hdq9 := (sf.trans (y6.trans (y7.trans (sg.trans y9)))) _ _ hdq
      generalize numF (dueF cs rs tss nn yl') = nf at f19 f29 hdq9
      generalize wordF (dueF cs rs tss nn yl') = wf at f19 f29 hdq9
      have both : ∀ f ∈ [f1, f2], ∃ fl, H9 f = some (.tup [.str wf, .int ((nf : Nat) : Int), .ref fl]) ∧ H9 fl = some (.lst [.bl true, .bl false, .bl false]) := by
        intro f hf
        rcases List.mem_cons.mp hf with rfl | hf
        · exact ⟨fl1, f19, fl19⟩
        rw [List.mem_singleton.mp hf]
        exact ⟨fl2, f29, fl29⟩
      clear hf1 hfl1 hf2 hfl2 f19 fl19 f29 fl29 hdq y6 y7 sg y9 k6 k7 sf s5 s6 s7 s3 sd
      refine ⟨FL, rfl, ⟨_, SqL.of k9⟩, for_it walk_list (fun i σ Hx => Same H9 Hx ∧ ∃ v26 : Option V, σ = [some (.ref a), some (.ref p0), some (.ref p1), some (.ref p2), some (.int (sz : Nat)), some (.ref n), some (.ref h), some (.int md), some (.ref r), u9, some (.ref Y), some (.ref td), some (.ref od), some (.ref lo), some (.ref hd), some (.ref tb), some (.ref pa), some (.ref sp), u18, u19, some (.ref dq), some (.ref BK), some (.ref TU), some (.ref FA), some (.ref MO), some (.ref q), v26, none, none, none]) ⟨Same.refl _, _, rfl⟩ (fun i σ Hx _ z => z.1.seq (SqL.of k9)) ?_ ?_⟩
      · rintro i2 x2' σ H21 Hx hi2 ⟨sx, v26', rfl⟩ ⟨rfl, hx2⟩
        obtain ⟨f, hf, rfl⟩ := refs_get (ts := [f1, f2]) hx2
        obtain ⟨fl, hff, hfl⟩ := both f (List.mem_of_getElem? hf)
        have hff := sx _ _ hff
        have hfl := sx _ _ hfl
        have hdx := sx _ _ hdq9
        refine ⟨_, rfl, f, _, _, _, rfl, rfl, SqT.of hff, atI_nat (j := 0) rfl, _, rfl, dq, _, _, _, rfl, rfl, SqT.of hdx, atI_nat (j := 0) rfl, rfl, _, rfl, ifF (by rw [decide_eq_true rfl]; rfl) ?_⟩
        refine ⟨_, rfl, f, _, _, _, rfl, rfl, SqT.of hff, atI_nat (j := 1) rfl, _, rfl, dq, _, _, _, rfl, rfl, SqT.of hdx, atI_nat (j := 1) rfl, _, rfl, dq, _, _, _, rfl, rfl, SqT.of hdx, atI_nat (j := 1) rfl, (nf : Int), (nf : Int), (nf : Int), rfl, ?_⟩
        rw [decide_eq_true (show (nf : Int) ≤ nf ∧ (nf : Int) ≤ nf from ⟨Int.le_refl _, Int.le_refl _⟩)]
        refine ⟨_, rfl, ifF rfl ?_⟩
        refine ⟨_, rfl, f, _, _, _, rfl, rfl, SqT.of hff, atI_nat (j := 2) rfl, by show 3 ≤ sizeLine; decide, fun lz nz => ?_⟩
        generalize hG : upd Hx lz _ = Hy
        have yz : Same Hx Hy := hG ▸ same_new nz
        have kz := (congrFun hG lz).symm.trans upd_same
        clear hG
        refine ⟨.list [.bool true, .bool false, .bool false], .list [.bool true, .bool false, .bool false], .lst (SqL.of (yz _ _ hfl)) (dpAll_bl [true, false, false]), .lst (SqL.of kz) (dpAll_bl [true, false, false]), by decide, by decide, _, rfl, ifF (by decide) ?_⟩
        exact ⟨sx.trans yz, _, rfl⟩
      · rintro σ Hx ⟨sx, v26', rfl⟩
        exact ⟨sm.trans (s9.trans sx), _, _, _, rfl⟩
    rintro σ Hz ⟨sz2, v20', v25', v26', rfl⟩
    have b1 := sz2 _ _ b1
    have b2 := sz2 _ _ b2
    have b3 := sz2 _ _ b3
    have b4 := sz2 _ _ b4
    have b5 := sz2 _ _ b5
    have b6 := sz2 _ _ b6
    have b7 := sz2 _ _ b7
    have hod := sz2 _ _ hod
    have hlo := sz2 _ _ hlo
    have hp2 := sz2 _ _ hp2
    have hn := sz2 _ _ hn
    have hh := sz2 _ _ hh
    have hr := sz2 _ _ hr
    have hY := sz2 _ _ hY
    have htd := sz2 _ _ htd
    have hT := hT.same sz2
    have hDl := hDl.same sz2
    have hR := hR.same sz2
    have htl := htl.imp fun t s z => sz2.tup z
    clear sz2 hall i6 hSp
    refine ⟨_, rfl, _, rfl, _, rfl, _, rfl, tb, r, td, p2, rts, rs, cs, tts, tss, q2, rfl, hT, SqL.of hr, hR.lsa, hRow, by omega, SqL.of htd, htl, by omega, hto, SqL.of hp2, l2', fun V1 v1 => ?_⟩
    refine ⟨_, rfl, ifF rfl ?_⟩
    refine ⟨_, rfl, _, rfl, _, rfl, _, rfl, _, rfl, _, rfl, _, rfl, _, rfl, by show 4 ≤ sizeLine; decide, fun ll m1 => ?_⟩
    generalize hG : upd V1 ll _ = V2
    have v2 : Same V1 V2 := hG ▸ same_new m1
    have u2 := (congrFun hG ll).symm.trans upd_same
    clear hG
    have v12 := v1.trans v2
    refine ⟨tb, n, r, td, ll, rts, rs, cs, tts, tss, h, Y, od, lo, rfl, hT.same v12, SqL.of (v12 _ _ hn), hok, SqL.of (v12 _ _ hr), (hR.same v12).lsa, hRow, by omega, v12 _ _ htd, htl.imp (fun t s z => v12.tup z), by omega, hto, u2, ⟨hs, v12 _ _ hh, fun z hz => hg z (hperm.mem_iff.mp hz), by omega⟩, ⟨yrs, v12 _ _ hY, by omega⟩, ⟨os, v12 _ _ hod, hog, hol⟩, ⟨ls, v12 _ _ hlo, hll⟩, fun V3 v3 => ?_⟩
    refine ⟨_, rfl, ifF rfl ?_⟩
    have v13 := v12.trans v3
    refine ⟨_, rfl, _, rfl, _, rfl, _, rfl, _, rfl, _, rfl, _, rfl, by show 6 ≤ sizeLine; decide, fun l9 m9 => ?_⟩
    generalize hG : upd V3 l9 _ = V4
    have v4 : Same V3 V4 := hG ▸ same_new m9
    have u4 := (congrFun hG l9).symm.trans upd_same
    clear hG
    have v14 := v13.trans v4
    have gos : PyData.canLayAll0 (pd os) = true := lay_all fun z hz => okz_good (hog z hz)
    have gcs : PyData.canLayAll0 (pd cs) = true := lay_all fun z hz => okz_good (hg z hz)
    have ghs : PyData.canLayAll0 (pd hs) = true := lay_all fun z hz => okz_good (hg z (hperm.mem_iff.mp hz))
    have grs : PyData.canLayAll0 (pdr rs) = true := lay_pdr fun x hx z hz => hg z ((hRow x hx).2 z hz)
    have lay : PyData.canLayAll0 [.list (pd cs), .list (pdr rs), .list (pd os), .list (pdi ls), .list (pd hs), .list (pdi yrs)] = true :=
      layc (layL gcs) (layc (layL grs) (layc (layL gos) (layc (layL (lay_pdi ls)) (layc (layL ghs) (layc (layL (lay_pdi yrs)) (by simp [PyData.canLayAll0]))))))
    have dep : PyData.depthAll [.list (pd cs), .list (pdr rs), .list (pd os), .list (pdi ls), .list (pd hs), .list (pdi yrs)] ≤ 20 := by
      have e1 := depth_pd cs
      have e2 := depth_pdr rs
      have e3 := depth_pd os
      have e4 := depth_pdi ls
      have e5 := depth_pd hs
      have e6 := depth_pdi yrs
      simp only [PyData.depthAll, PyData.depth] at e1 e2 e3 e4 e5 e6 ⊢
      omega
    refine ⟨.list [.list (pd cs), .list (pdr rs), .list (pd os), .list (pdi ls), .list (pd hs), .list (pdi yrs)], .list [.list (pd cs), .list (pdr rs), .list (pd os), .list (pdi ls), .list (pd hs), .list (pdi yrs)],
      .lst (SqL.of (v14 _ _ b7)) (.cons (.lst (SqL.of (v14 _ _ b1)) (dp_pd cs)) (.cons (.lst (SqL.of (v14 _ _ b2)) (dp_pdr (hDl.same v14))) (.cons (.lst (SqL.of (v14 _ _ b3)) (dp_pd os)) (.cons (.lst (SqL.of (v14 _ _ b4)) (dp_ivs ls)) (.cons (.lst (SqL.of (v14 _ _ b5)) (dp_pd hs)) (.cons (.lst (SqL.of (v14 _ _ b6)) (dp_ivs yrs)) .nil)))))),
      .lst (SqL.of u4) (.cons (.lst (SqL.of (v14 _ _ hn)) (dp_pd cs)) (.cons (.lst (SqL.of (v14 _ _ hr)) (dp_pdr (hR.same v14))) (.cons (.lst (SqL.of (v14 _ _ hod)) (dp_pd os)) (.cons (.lst (SqL.of (v14 _ _ hlo)) (dp_ivs ls)) (.cons (.lst (SqL.of (v14 _ _ hh)) (dp_pd hs)) (.cons (.lst (SqL.of (v14 _ _ hY)) (dp_ivs yrs)) .nil)))))), shapedL lay dep, shapedL lay dep, ?_⟩
    rw [eqvL lay]
    exact kk _
end
end My
set_option maxRecDepth 100000
set_option maxHeartbeats 4000000
set_option exponentiation.threshold 10000
namespace My
open PySem L2
theorem all_mk {l : PySem.W.OpenLaw} {w : World} {K : PySem.W.Frag} {h : Heap} {mg : Str → Option Value} {fa C_Table C_Spans C_RowsError C_Unknown C_Impossible C_BadOrder C_BadSpan C_BadYears C_BrokenSpan C_NotLayout a_BadOrder_init a_BadSpan_init a_BadYears_init a_BrokenSpan_init a_is_name a_first_bad_name a_first_stray a_order_fault a_count_runs a_runs_of a_check_order a_broken a_is_layout a_check_columns a_check_rows a_Table_in_order a_Table_init a_Table_getitem a_Table_len a_Table_eq a_Spans_init a_has_time a_are_times a_ends_of a_time_of a_check_years a_check_layout a_law_cell a_law_pool a_law_size a_law_names a_law_order a_law_row a_law_rows a_law_steps a_law_time a_law_told a_law_is_number a_law_unbroken a_law_bad_index a_law_bad_year a_law_due a_law_checked a_law_refused a_law_free_spans a_law_other_years a_law_other_order a_law_bad_spans a_law_bounds_right a_law_many_right a_law e_Table_init : Addr} (X : K.In h) (G : h.Ns mainGlobals mg) (hfa : mg "law" = some (.ref fa))
    {cd_BadOrder : ClassData}
    {oc_BadOrder_init kV_BadOrder_init dc_BadOrder_init pm_BadOrder_init ct_BadOrder_init oa_BadOrder_init ob_BadOrder_init : Value} {od_BadOrder_init an_BadOrder_init da_BadOrder_init db_BadOrder_init : Option Addr} {sl_BadOrder_init la_BadOrder_init lb_BadOrder_init : Array (Option Value)} {cda_BadOrder_init cc_BadOrder_init : Addr} {vs_BadOrder_init : Array Value} {fl_BadOrder_init : Str} {tf_BadOrder_init : Tok}
    {cd_BadSpan : ClassData}
    {oc_BadSpan_init kV_BadSpan_init dc_BadSpan_init pm_BadSpan_init ct_BadSpan_init oa_BadSpan_init ob_BadSpan_init : Value} {od_BadSpan_init an_BadSpan_init da_BadSpan_init db_BadSpan_init : Option Addr} {sl_BadSpan_init la_BadSpan_init lb_BadSpan_init : Array (Option Value)} {cda_BadSpan_init cc_BadSpan_init : Addr} {vs_BadSpan_init : Array Value} {fl_BadSpan_init : Str} {tf_BadSpan_init : Tok}
    {cd_BadYears : ClassData}
    {oc_BadYears_init kV_BadYears_init dc_BadYears_init pm_BadYears_init ct_BadYears_init oa_BadYears_init ob_BadYears_init : Value} {od_BadYears_init an_BadYears_init da_BadYears_init db_BadYears_init : Option Addr} {sl_BadYears_init la_BadYears_init lb_BadYears_init : Array (Option Value)} {cda_BadYears_init cc_BadYears_init : Addr} {vs_BadYears_init : Array Value} {fl_BadYears_init : Str} {tf_BadYears_init : Tok}
    {cd_BrokenSpan : ClassData}
    {oc_BrokenSpan_init kV_BrokenSpan_init dc_BrokenSpan_init pm_BrokenSpan_init ct_BrokenSpan_init oa_BrokenSpan_init ob_BrokenSpan_init : Value} {od_BrokenSpan_init an_BrokenSpan_init da_BrokenSpan_init db_BrokenSpan_init : Option Addr} {sl_BrokenSpan_init la_BrokenSpan_init lb_BrokenSpan_init : Array (Option Value)} {cda_BrokenSpan_init cc_BrokenSpan_init : Addr} {vs_BrokenSpan_init : Array Value} {fl_BrokenSpan_init : Str} {tf_BrokenSpan_init : Tok}
    {tk_LONGEST_NAME : Tok}
    {tk_MOST_SPANS : Tok}
    {tk_MOST_YEARS : Tok}
    {tk_Table_MOST_COLUMNS : Tok}
    {tk_Table_MOST_ROWS : Tok}
    {oc_is_name kV_is_name dc_is_name pm_is_name cd_is_name ct_is_name : Value} {od_is_name an_is_name : Option Addr} {sl_is_name : Array (Option Value)}
    {oc_first_bad_name kV_first_bad_name dc_first_bad_name pm_first_bad_name cd_first_bad_name ct_first_bad_name : Value} {od_first_bad_name an_first_bad_name : Option Addr} {sl_first_bad_name : Array (Option Value)}
    {oc_first_stray kV_first_stray dc_first_stray pm_first_stray cd_first_stray ct_first_stray : Value} {od_first_stray an_first_stray : Option Addr} {sl_first_stray : Array (Option Value)}
    {oc_order_fault kV_order_fault dc_order_fault pm_order_fault cd_order_fault ct_order_fault : Value} {od_order_fault an_order_fault : Option Addr} {sl_order_fault : Array (Option Value)}
    {oc_count_runs kV_count_runs dc_count_runs pm_count_runs cd_count_runs ct_count_runs : Value} {od_count_runs an_count_runs : Option Addr} {sl_count_runs : Array (Option Value)}
    {oc_runs_of kV_runs_of dc_runs_of pm_runs_of cd_runs_of ct_runs_of : Value} {od_runs_of an_runs_of : Option Addr} {sl_runs_of : Array (Option Value)}
    {oc_check_order kV_check_order dc_check_order pm_check_order cd_check_order ct_check_order : Value} {od_check_order an_check_order : Option Addr} {sl_check_order : Array (Option Value)}
    {oc_broken kV_broken dc_broken pm_broken cd_broken ct_broken : Value} {od_broken an_broken : Option Addr} {sl_broken : Array (Option Value)}
    {oc_is_layout kV_is_layout dc_is_layout pm_is_layout cd_is_layout ct_is_layout : Value} {od_is_layout an_is_layout : Option Addr} {sl_is_layout : Array (Option Value)}
    {oc_check_columns kV_check_columns dc_check_columns pm_check_columns cd_check_columns ct_check_columns : Value} {od_check_columns an_check_columns : Option Addr} {sl_check_columns : Array (Option Value)}
    {oc_check_rows kV_check_rows dc_check_rows pm_check_rows cd_check_rows ct_check_rows : Value} {od_check_rows an_check_rows : Option Addr} {sl_check_rows : Array (Option Value)}
    {oc_Table_in_order kV_Table_in_order dc_Table_in_order pm_Table_in_order cd_Table_in_order ct_Table_in_order : Value} {od_Table_in_order an_Table_in_order : Option Addr} {sl_Table_in_order : Array (Option Value)}
    {oc_Table_init kV_Table_init dc_Table_init pm_Table_init cd_Table_init ct_Table_init : Value} {od_Table_init an_Table_init : Option Addr} {sl_Table_init : Array (Option Value)}
    {TD_Table_init : Addr} {to_Table_init : Option Addr} {tn_Table_init : Nat} {ts_Table_init : Array (Option Value)}
    {oc_Table_getitem kV_Table_getitem dc_Table_getitem pm_Table_getitem cd_Table_getitem ct_Table_getitem : Value} {od_Table_getitem an_Table_getitem : Option Addr} {sl_Table_getitem : Array (Option Value)}
    {oc_Table_len kV_Table_len dc_Table_len pm_Table_len cd_Table_len ct_Table_len : Value} {od_Table_len an_Table_len : Option Addr} {sl_Table_len : Array (Option Value)}
    {oc_Table_eq kV_Table_eq dc_Table_eq pm_Table_eq cd_Table_eq ct_Table_eq : Value} {od_Table_eq an_Table_eq : Option Addr} {sl_Table_eq : Array (Option Value)}
    {oc_Spans_init kV_Spans_init dc_Spans_init pm_Spans_init cd_Spans_init ct_Spans_init : Value} {od_Spans_init an_Spans_init : Option Addr} {sl_Spans_init : Array (Option Value)}
    {oc_has_time kV_has_time dc_has_time pm_has_time cd_has_time ct_has_time : Value} {od_has_time an_has_time : Option Addr} {sl_has_time : Array (Option Value)}
    {oc_are_times kV_are_times dc_are_times pm_are_times cd_are_times ct_are_times : Value} {od_are_times an_are_times : Option Addr} {sl_are_times : Array (Option Value)}
    {oc_ends_of kV_ends_of dc_ends_of pm_ends_of cd_ends_of ct_ends_of : Value} {od_ends_of an_ends_of : Option Addr} {sl_ends_of : Array (Option Value)}
    {oc_time_of kV_time_of dc_time_of pm_time_of cd_time_of ct_time_of : Value} {od_time_of an_time_of : Option Addr} {sl_time_of : Array (Option Value)}
    {oc_check_years kV_check_years dc_check_years pm_check_years cd_check_years ct_check_years : Value} {od_check_years an_check_years : Option Addr} {sl_check_years : Array (Option Value)}
    {oc_check_layout kV_check_layout dc_check_layout pm_check_layout cd_check_layout ct_check_layout : Value} {od_check_layout an_check_layout : Option Addr} {sl_check_layout : Array (Option Value)}
    {oc_law_cell kV_law_cell dc_law_cell pm_law_cell cd_law_cell ct_law_cell : Value} {od_law_cell an_law_cell : Option Addr} {sl_law_cell : Array (Option Value)}
    {oc_law_pool kV_law_pool dc_law_pool pm_law_pool cd_law_pool ct_law_pool : Value} {od_law_pool an_law_pool : Option Addr} {sl_law_pool : Array (Option Value)}
    {oc_law_size kV_law_size dc_law_size pm_law_size cd_law_size ct_law_size : Value} {od_law_size an_law_size : Option Addr} {sl_law_size : Array (Option Value)}
    {oc_law_names kV_law_names dc_law_names pm_law_names cd_law_names ct_law_names : Value} {od_law_names an_law_names : Option Addr} {sl_law_names : Array (Option Value)}
    {oc_law_order kV_law_order dc_law_order pm_law_order cd_law_order ct_law_order : Value} {od_law_order an_law_order : Option Addr} {sl_law_order : Array (Option Value)}
    {oc_law_row kV_law_row dc_law_row pm_law_row cd_law_row ct_law_row : Value} {od_law_row an_law_row : Option Addr} {sl_law_row : Array (Option Value)}
    {oc_law_rows kV_law_rows dc_law_rows pm_law_rows cd_law_rows ct_law_rows : Value} {od_law_rows an_law_rows : Option Addr} {sl_law_rows : Array (Option Value)}
    {oc_law_steps kV_law_steps dc_law_steps pm_law_steps cd_law_steps ct_law_steps : Value} {od_law_steps an_law_steps : Option Addr} {sl_law_steps : Array (Option Value)}
    {oc_law_time kV_law_time dc_law_time pm_law_time cd_law_time ct_law_time : Value} {od_law_time an_law_time : Option Addr} {sl_law_time : Array (Option Value)}
    {oc_law_told kV_law_told dc_law_told pm_law_told cd_law_told ct_law_told : Value} {od_law_told an_law_told : Option Addr} {sl_law_told : Array (Option Value)}
    {oc_law_is_number kV_law_is_number dc_law_is_number pm_law_is_number cd_law_is_number ct_law_is_number : Value} {od_law_is_number an_law_is_number : Option Addr} {sl_law_is_number : Array (Option Value)}
    {oc_law_unbroken kV_law_unbroken dc_law_unbroken pm_law_unbroken cd_law_unbroken ct_law_unbroken : Value} {od_law_unbroken an_law_unbroken : Option Addr} {sl_law_unbroken : Array (Option Value)}
    {oc_law_bad_index kV_law_bad_index dc_law_bad_index pm_law_bad_index cd_law_bad_index ct_law_bad_index : Value} {od_law_bad_index an_law_bad_index : Option Addr} {sl_law_bad_index : Array (Option Value)}
    {oc_law_bad_year kV_law_bad_year dc_law_bad_year pm_law_bad_year cd_law_bad_year ct_law_bad_year : Value} {od_law_bad_year an_law_bad_year : Option Addr} {sl_law_bad_year : Array (Option Value)}
    {oc_law_due kV_law_due dc_law_due pm_law_due cd_law_due ct_law_due : Value} {od_law_due an_law_due : Option Addr} {sl_law_due : Array (Option Value)}
    {oc_law_checked kV_law_checked dc_law_checked pm_law_checked cd_law_checked ct_law_checked : Value} {od_law_checked an_law_checked : Option Addr} {sl_law_checked : Array (Option Value)}
    {oc_law_refused kV_law_refused dc_law_refused pm_law_refused cd_law_refused ct_law_refused : Value} {od_law_refused an_law_refused : Option Addr} {sl_law_refused : Array (Option Value)}
    {oc_law_free_spans kV_law_free_spans dc_law_free_spans pm_law_free_spans cd_law_free_spans ct_law_free_spans : Value} {od_law_free_spans an_law_free_spans : Option Addr} {sl_law_free_spans : Array (Option Value)}
    {oc_law_other_years kV_law_other_years dc_law_other_years pm_law_other_years cd_law_other_years ct_law_other_years : Value} {od_law_other_years an_law_other_years : Option Addr} {sl_law_other_years : Array (Option Value)}
    {oc_law_other_order kV_law_other_order dc_law_other_order pm_law_other_order cd_law_other_order ct_law_other_order : Value} {od_law_other_order an_law_other_order : Option Addr} {sl_law_other_order : Array (Option Value)}
    {oc_law_bad_spans kV_law_bad_spans dc_law_bad_spans pm_law_bad_spans cd_law_bad_spans ct_law_bad_spans : Value} {od_law_bad_spans an_law_bad_spans : Option Addr} {sl_law_bad_spans : Array (Option Value)}
    {oc_law_bounds_right kV_law_bounds_right dc_law_bounds_right pm_law_bounds_right cd_law_bounds_right ct_law_bounds_right : Value} {od_law_bounds_right an_law_bounds_right : Option Addr} {sl_law_bounds_right : Array (Option Value)}
    {oc_law_many_right kV_law_many_right dc_law_many_right pm_law_many_right cd_law_many_right ct_law_many_right : Value} {od_law_many_right an_law_many_right : Option Addr} {sl_law_many_right : Array (Option Value)}
    {oc_law kV_law dc_law pm_law cd_law ct_law : Value} {od_law an_law : Option Addr} {sl_law : Array (Option Value)}
    (xmg_Table : PySem.W.nsIn K mainGlobals "Table" = some (some (.ref C_Table)))
    (xmg_Spans : PySem.W.nsIn K mainGlobals "Spans" = some (some (.ref C_Spans)))
    (xmg_RowsError : PySem.W.nsIn K mainGlobals "RowsError" = some (some (.ref C_RowsError)))
    (xmg_Unknown : PySem.W.nsIn K mainGlobals "Unknown" = some (some (.ref C_Unknown)))
    (xmg_Impossible : PySem.W.nsIn K mainGlobals "Impossible" = some (some (.ref C_Impossible)))
    (xmg_BadOrder : PySem.W.nsIn K mainGlobals "BadOrder" = some (some (.ref C_BadOrder)))
    (xmg_BadSpan : PySem.W.nsIn K mainGlobals "BadSpan" = some (some (.ref C_BadSpan)))
    (xmg_BadYears : PySem.W.nsIn K mainGlobals "BadYears" = some (some (.ref C_BadYears)))
    (xmg_BrokenSpan : PySem.W.nsIn K mainGlobals "BrokenSpan" = some (some (.ref C_BrokenSpan)))
    (xmg_NotLayout : PySem.W.nsIn K mainGlobals "NotLayout" = some (some (.ref C_NotLayout)))
    (am_BadOrder_init : PySem.W.findIn K (.ref C_BadOrder) "__init__" = some (some (.ref a_BadOrder_init)))
    (am_BadSpan_init : PySem.W.findIn K (.ref C_BadSpan) "__init__" = some (some (.ref a_BadSpan_init)))
    (am_BadYears_init : PySem.W.findIn K (.ref C_BadYears) "__init__" = some (some (.ref a_BadYears_init)))
    (am_BrokenSpan_init : PySem.W.findIn K (.ref C_BrokenSpan) "__init__" = some (some (.ref a_BrokenSpan_init)))
    (xmg_LONGEST_NAME : PySem.W.nsIn K mainGlobals "LONGEST_NAME" = some (some (.int 8 tk_LONGEST_NAME)))
    (xmg_MOST_SPANS : PySem.W.nsIn K mainGlobals "MOST_SPANS" = some (some (.int 24 tk_MOST_SPANS)))
    (xmg_MOST_YEARS : PySem.W.nsIn K mainGlobals "MOST_YEARS" = some (some (.int 1000000 tk_MOST_YEARS)))
    (xmg_is_name : PySem.W.nsIn K mainGlobals "is_name" = some (some (.ref a_is_name)))
    (xmg_first_bad_name : PySem.W.nsIn K mainGlobals "first_bad_name" = some (some (.ref a_first_bad_name)))
    (xmg_first_stray : PySem.W.nsIn K mainGlobals "first_stray" = some (some (.ref a_first_stray)))
    (xmg_order_fault : PySem.W.nsIn K mainGlobals "order_fault" = some (some (.ref a_order_fault)))
    (xmg_count_runs : PySem.W.nsIn K mainGlobals "count_runs" = some (some (.ref a_count_runs)))
    (xmg_runs_of : PySem.W.nsIn K mainGlobals "runs_of" = some (some (.ref a_runs_of)))
    (xmg_check_order : PySem.W.nsIn K mainGlobals "check_order" = some (some (.ref a_check_order)))
    (xmg_broken : PySem.W.nsIn K mainGlobals "broken" = some (some (.ref a_broken)))
    (xmg_is_layout : PySem.W.nsIn K mainGlobals "is_layout" = some (some (.ref a_is_layout)))
    (xmg_check_columns : PySem.W.nsIn K mainGlobals "check_columns" = some (some (.ref a_check_columns)))
    (xmg_check_rows : PySem.W.nsIn K mainGlobals "_check_rows" = some (some (.ref a_check_rows)))
    (am_Table_in_order : PySem.W.findIn K (.ref C_Table) "_in_order" = some (some (.ref a_Table_in_order)))
    (am_Table_init : PySem.W.findIn K (.ref C_Table) "__init__" = some (some (.ref a_Table_init)))
    (am_Table_getitem : PySem.W.findIn K (.ref C_Table) "__getitem__" = some (some (.ref a_Table_getitem)))
    (am_Table_len : PySem.W.findIn K (.ref C_Table) "__len__" = some (some (.ref a_Table_len)))
    (am_Table_eq : PySem.W.findIn K (.ref C_Table) "__eq__" = some (some (.ref a_Table_eq)))
    (am_Spans_init : PySem.W.findIn K (.ref C_Spans) "__init__" = some (some (.ref a_Spans_init)))
    (xmg_has_time : PySem.W.nsIn K mainGlobals "_has_time" = some (some (.ref a_has_time)))
    (xmg_are_times : PySem.W.nsIn K mainGlobals "_are_times" = some (some (.ref a_are_times)))
    (xmg_ends_of : PySem.W.nsIn K mainGlobals "ends_of" = some (some (.ref a_ends_of)))
    (xmg_time_of : PySem.W.nsIn K mainGlobals "time_of" = some (some (.ref a_time_of)))
    (xmg_check_years : PySem.W.nsIn K mainGlobals "check_years" = some (some (.ref a_check_years)))
    (xmg_check_layout : PySem.W.nsIn K mainGlobals "_check_layout" = some (some (.ref a_check_layout)))
    (xmg_law_cell : PySem.W.nsIn K mainGlobals "_law_cell" = some (some (.ref a_law_cell)))
    (xmg_law_pool : PySem.W.nsIn K mainGlobals "_law_pool" = some (some (.ref a_law_pool)))
    (xmg_law_size : PySem.W.nsIn K mainGlobals "_law_size" = some (some (.ref a_law_size)))
    (xmg_law_names : PySem.W.nsIn K mainGlobals "_law_names" = some (some (.ref a_law_names)))
    (xmg_law_order : PySem.W.nsIn K mainGlobals "_law_order" = some (some (.ref a_law_order)))
    (xmg_law_row : PySem.W.nsIn K mainGlobals "_law_row" = some (some (.ref a_law_row)))
    (xmg_law_rows : PySem.W.nsIn K mainGlobals "_law_rows" = some (some (.ref a_law_rows)))
    (xmg_law_steps : PySem.W.nsIn K mainGlobals "_law_steps" = some (some (.ref a_law_steps)))
    (xmg_law_time : PySem.W.nsIn K mainGlobals "_law_time" = some (some (.ref a_law_time)))
    (xmg_law_told : PySem.W.nsIn K mainGlobals "_law_told" = some (some (.ref a_law_told)))
    (xmg_law_is_number : PySem.W.nsIn K mainGlobals "_law_is_number" = some (some (.ref a_law_is_number)))
    (xmg_law_unbroken : PySem.W.nsIn K mainGlobals "_law_unbroken" = some (some (.ref a_law_unbroken)))
    (xmg_law_bad_index : PySem.W.nsIn K mainGlobals "_law_bad_index" = some (some (.ref a_law_bad_index)))
    (xmg_law_bad_year : PySem.W.nsIn K mainGlobals "_law_bad_year" = some (some (.ref a_law_bad_year)))
    (xmg_law_due : PySem.W.nsIn K mainGlobals "_law_due" = some (some (.ref a_law_due)))
    (xmg_law_checked : PySem.W.nsIn K mainGlobals "_law_checked" = some (some (.ref a_law_checked)))
    (xmg_law_refused : PySem.W.nsIn K mainGlobals "_law_refused" = some (some (.ref a_law_refused)))
    (xmg_law_free_spans : PySem.W.nsIn K mainGlobals "_law_free_spans" = some (some (.ref a_law_free_spans)))
    (xmg_law_other_years : PySem.W.nsIn K mainGlobals "_law_other_years" = some (some (.ref a_law_other_years)))
    (xmg_law_other_order : PySem.W.nsIn K mainGlobals "_law_other_order" = some (some (.ref a_law_other_order)))
    (xmg_law_bad_spans : PySem.W.nsIn K mainGlobals "_law_bad_spans" = some (some (.ref a_law_bad_spans)))
    (xmg_law_bounds_right : PySem.W.nsIn K mainGlobals "_law_bounds_right" = some (some (.ref a_law_bounds_right)))
    (xmg_law_many_right : PySem.W.nsIn K mainGlobals "_law_many_right" = some (some (.ref a_law_many_right)))
    (xmg_law : PySem.W.nsIn K mainGlobals "law" = some (some (.ref a_law)))
    (if_Table_in_order : PySem.W.isFn K (.ref a_Table_in_order) = true)
    (if_Table_init : PySem.W.isFn K (.ref a_Table_init) = true)
    (if_Table_getitem : PySem.W.isFn K (.ref a_Table_getitem) = true)
    (if_Table_len : PySem.W.isFn K (.ref a_Table_len) = true)
    (if_Table_eq : PySem.W.isFn K (.ref a_Table_eq) = true)
    (if_Spans_init : PySem.W.isFn K (.ref a_Spans_init) = true)
    (l_BadOrder_init : K.lookup a_BadOrder_init = some ⟨oc_BadOrder_init, od_BadOrder_init, .func (PySem.W.ksFn "__init__" "BadOrder.__init__" (defArgs s_BadOrder_init) (defBody s_BadOrder_init) (defScope s_BadOrder_init) .none kV_BadOrder_init dc_BadOrder_init pm_BadOrder_init an_BadOrder_init (.ref cda_BadOrder_init) ct_BadOrder_init cc_BadOrder_init), sl_BadOrder_init⟩)
    (l_BadSpan_init : K.lookup a_BadSpan_init = some ⟨oc_BadSpan_init, od_BadSpan_init, .func (PySem.W.ksFn "__init__" "BadSpan.__init__" (defArgs s_BadSpan_init) (defBody s_BadSpan_init) (defScope s_BadSpan_init) .none kV_BadSpan_init dc_BadSpan_init pm_BadSpan_init an_BadSpan_init (.ref cda_BadSpan_init) ct_BadSpan_init cc_BadSpan_init), sl_BadSpan_init⟩)
    (l_BadYears_init : K.lookup a_BadYears_init = some ⟨oc_BadYears_init, od_BadYears_init, .func (PySem.W.ksFn "__init__" "BadYears.__init__" (defArgs s_BadYears_init) (defBody s_BadYears_init) (defScope s_BadYears_init) .none kV_BadYears_init dc_BadYears_init pm_BadYears_init an_BadYears_init (.ref cda_BadYears_init) ct_BadYears_init cc_BadYears_init), sl_BadYears_init⟩)
    (l_BrokenSpan_init : K.lookup a_BrokenSpan_init = some ⟨oc_BrokenSpan_init, od_BrokenSpan_init, .func (PySem.W.ksFn "__init__" "BrokenSpan.__init__" (defArgs s_BrokenSpan_init) (defBody s_BrokenSpan_init) (defScope s_BrokenSpan_init) .none kV_BrokenSpan_init dc_BrokenSpan_init pm_BrokenSpan_init an_BrokenSpan_init (.ref cda_BrokenSpan_init) ct_BrokenSpan_init cc_BrokenSpan_init), sl_BrokenSpan_init⟩)
    (l_is_name : K.lookup a_is_name = some ⟨oc_is_name, od_is_name, .func (PySem.W.fnOf "is_name" "is_name" (defArgs s_is_name) (defBody s_is_name) (defScope s_is_name) .none kV_is_name dc_is_name pm_is_name an_is_name cd_is_name ct_is_name), sl_is_name⟩)
    (l_first_bad_name : K.lookup a_first_bad_name = some ⟨oc_first_bad_name, od_first_bad_name, .func (PySem.W.fnOf "first_bad_name" "first_bad_name" (defArgs s_first_bad_name) (defBody s_first_bad_name) (defScope s_first_bad_name) .none kV_first_bad_name dc_first_bad_name pm_first_bad_name an_first_bad_name cd_first_bad_name ct_first_bad_name), sl_first_bad_name⟩)
    (l_first_stray : K.lookup a_first_stray = some ⟨oc_first_stray, od_first_stray, .func (PySem.W.fnOf "first_stray" "first_stray" (defArgs s_first_stray) (defBody s_first_stray) (defScope s_first_stray) .none kV_first_stray dc_first_stray pm_first_stray an_first_stray cd_first_stray ct_first_stray), sl_first_stray⟩)
    (l_order_fault : K.lookup a_order_fault = some ⟨oc_order_fault, od_order_fault, .func (PySem.W.fnOf "order_fault" "order_fault" (defArgs s_order_fault) (defBody s_order_fault) (defScope s_order_fault) .none kV_order_fault dc_order_fault pm_order_fault an_order_fault cd_order_fault ct_order_fault), sl_order_fault⟩)
    (l_count_runs : K.lookup a_count_runs = some ⟨oc_count_runs, od_count_runs, .func (PySem.W.fnOf "count_runs" "count_runs" (defArgs s_count_runs) (defBody s_count_runs) (defScope s_count_runs) .none kV_count_runs dc_count_runs pm_count_runs an_count_runs cd_count_runs ct_count_runs), sl_count_runs⟩)
    (l_runs_of : K.lookup a_runs_of = some ⟨oc_runs_of, od_runs_of, .func (PySem.W.fnOf "runs_of" "runs_of" (defArgs s_runs_of) (defBody s_runs_of) (defScope s_runs_of) .none kV_runs_of dc_runs_of pm_runs_of an_runs_of cd_runs_of ct_runs_of), sl_runs_of⟩)
    (l_check_order : K.lookup a_check_order = some ⟨oc_check_order, od_check_order, .func (PySem.W.fnOf "check_order" "check_order" (defArgs s_check_order) (defBody s_check_order) (defScope s_check_order) .none kV_check_order dc_check_order pm_check_order an_check_order cd_check_order ct_check_order), sl_check_order⟩)
    (l_broken : K.lookup a_broken = some ⟨oc_broken, od_broken, .func (PySem.W.fnOf "broken" "broken" (defArgs s_broken) (defBody s_broken) (defScope s_broken) .none kV_broken dc_broken pm_broken an_broken cd_broken ct_broken), sl_broken⟩)
    (l_is_layout : K.lookup a_is_layout = some ⟨oc_is_layout, od_is_layout, .func (PySem.W.fnOf "is_layout" "is_layout" (defArgs s_is_layout) (defBody s_is_layout) (defScope s_is_layout) .none kV_is_layout dc_is_layout pm_is_layout an_is_layout cd_is_layout ct_is_layout), sl_is_layout⟩)
    (l_check_columns : K.lookup a_check_columns = some ⟨oc_check_columns, od_check_columns, .func (PySem.W.fnOf "check_columns" "check_columns" (defArgs s_check_columns) (defBody s_check_columns) (defScope s_check_columns) .none kV_check_columns dc_check_columns pm_check_columns an_check_columns cd_check_columns ct_check_columns), sl_check_columns⟩)
    (l_check_rows : K.lookup a_check_rows = some ⟨oc_check_rows, od_check_rows, .func (PySem.W.fnOf "_check_rows" "_check_rows" (defArgs s_check_rows) (defBody s_check_rows) (defScope s_check_rows) .none kV_check_rows dc_check_rows pm_check_rows an_check_rows cd_check_rows ct_check_rows), sl_check_rows⟩)
    (l_Table_in_order : K.lookup a_Table_in_order = some ⟨oc_Table_in_order, od_Table_in_order, .func (PySem.W.fnOf "_in_order" "Table._in_order" (defArgs s_Table_in_order) (defBody s_Table_in_order) (defScope s_Table_in_order) .none kV_Table_in_order dc_Table_in_order pm_Table_in_order an_Table_in_order cd_Table_in_order ct_Table_in_order), sl_Table_in_order⟩)
    (l_Table_init : K.lookup a_Table_init = some ⟨oc_Table_init, od_Table_init, .func (PySem.W.fnOf "__init__" "Table.__init__" (defArgs s_Table_init) (defBody s_Table_init) (defScope s_Table_init) (.ref TD_Table_init) kV_Table_init dc_Table_init pm_Table_init an_Table_init cd_Table_init ct_Table_init), sl_Table_init⟩)
    (l_Table_getitem : K.lookup a_Table_getitem = some ⟨oc_Table_getitem, od_Table_getitem, .func (PySem.W.fnOf "__getitem__" "Table.__getitem__" (defArgs s_Table_getitem) (defBody s_Table_getitem) (defScope s_Table_getitem) .none kV_Table_getitem dc_Table_getitem pm_Table_getitem an_Table_getitem cd_Table_getitem ct_Table_getitem), sl_Table_getitem⟩)
    (l_Table_len : K.lookup a_Table_len = some ⟨oc_Table_len, od_Table_len, .func (PySem.W.fnOf "__len__" "Table.__len__" (defArgs s_Table_len) (defBody s_Table_len) (defScope s_Table_len) .none kV_Table_len dc_Table_len pm_Table_len an_Table_len cd_Table_len ct_Table_len), sl_Table_len⟩)
    (l_Table_eq : K.lookup a_Table_eq = some ⟨oc_Table_eq, od_Table_eq, .func (PySem.W.fnOf "__eq__" "Table.__eq__" (defArgs s_Table_eq) (defBody s_Table_eq) (defScope s_Table_eq) .none kV_Table_eq dc_Table_eq pm_Table_eq an_Table_eq cd_Table_eq ct_Table_eq), sl_Table_eq⟩)
    (l_Spans_init : K.lookup a_Spans_init = some ⟨oc_Spans_init, od_Spans_init, .func (PySem.W.fnOf "__init__" "Spans.__init__" (defArgs s_Spans_init) (defBody s_Spans_init) (defScope s_Spans_init) .none kV_Spans_init dc_Spans_init pm_Spans_init an_Spans_init cd_Spans_init ct_Spans_init), sl_Spans_init⟩)
    (l_has_time : K.lookup a_has_time = some ⟨oc_has_time, od_has_time, .func (PySem.W.fnOf "_has_time" "_has_time" (defArgs s_has_time) (defBody s_has_time) (defScope s_has_time) .none kV_has_time dc_has_time pm_has_time an_has_time cd_has_time ct_has_time), sl_has_time⟩)
    (l_are_times : K.lookup a_are_times = some ⟨oc_are_times, od_are_times, .func (PySem.W.fnOf "_are_times" "_are_times" (defArgs s_are_times) (defBody s_are_times) (defScope s_are_times) .none kV_are_times dc_are_times pm_are_times an_are_times cd_are_times ct_are_times), sl_are_times⟩)
    (l_ends_of : K.lookup a_ends_of = some ⟨oc_ends_of, od_ends_of, .func (PySem.W.fnOf "ends_of" "ends_of" (defArgs s_ends_of) (defBody s_ends_of) (defScope s_ends_of) .none kV_ends_of dc_ends_of pm_ends_of an_ends_of cd_ends_of ct_ends_of), sl_ends_of⟩)
    (l_time_of : K.lookup a_time_of = some ⟨oc_time_of, od_time_of, .func (PySem.W.fnOf "time_of" "time_of" (defArgs s_time_of) (defBody s_time_of) (defScope s_time_of) .none kV_time_of dc_time_of pm_time_of an_time_of cd_time_of ct_time_of), sl_time_of⟩)
    (l_check_years : K.lookup a_check_years = some ⟨oc_check_years, od_check_years, .func (PySem.W.fnOf "check_years" "check_years" (defArgs s_check_years) (defBody s_check_years) (defScope s_check_years) .none kV_check_years dc_check_years pm_check_years an_check_years cd_check_years ct_check_years), sl_check_years⟩)
    (l_check_layout : K.lookup a_check_layout = some ⟨oc_check_layout, od_check_layout, .func (PySem.W.fnOf "_check_layout" "_check_layout" (defArgs s_check_layout) (defBody s_check_layout) (defScope s_check_layout) .none kV_check_layout dc_check_layout pm_check_layout an_check_layout cd_check_layout ct_check_layout), sl_check_layout⟩)
    (l_law_cell : K.lookup a_law_cell = some ⟨oc_law_cell, od_law_cell, .func (PySem.W.fnOf "_law_cell" "_law_cell" (defArgs s_law_cell) (defBody s_law_cell) (defScope s_law_cell) .none kV_law_cell dc_law_cell pm_law_cell an_law_cell cd_law_cell ct_law_cell), sl_law_cell⟩)
    (l_law_pool : K.lookup a_law_pool = some ⟨oc_law_pool, od_law_pool, .func (PySem.W.fnOf "_law_pool" "_law_pool" (defArgs s_law_pool) (defBody s_law_pool) (defScope s_law_pool) .none kV_law_pool dc_law_pool pm_law_pool an_law_pool cd_law_pool ct_law_pool), sl_law_pool⟩)
    (l_law_size : K.lookup a_law_size = some ⟨oc_law_size, od_law_size, .func (PySem.W.fnOf "_law_size" "_law_size" (defArgs s_law_size) (defBody s_law_size) (defScope s_law_size) .none kV_law_size dc_law_size pm_law_size an_law_size cd_law_size ct_law_size), sl_law_size⟩)
    (l_law_names : K.lookup a_law_names = some ⟨oc_law_names, od_law_names, .func (PySem.W.fnOf "_law_names" "_law_names" (defArgs s_law_names) (defBody s_law_names) (defScope s_law_names) .none kV_law_names dc_law_names pm_law_names an_law_names cd_law_names ct_law_names), sl_law_names⟩)
    (l_law_order : K.lookup a_law_order = some ⟨oc_law_order, od_law_order, .func (PySem.W.fnOf "_law_order" "_law_order" (defArgs s_law_order) (defBody s_law_order) (defScope s_law_order) .none kV_law_order dc_law_order pm_law_order an_law_order cd_law_order ct_law_order), sl_law_order⟩)
    (l_law_row : K.lookup a_law_row = some ⟨oc_law_row, od_law_row, .func (PySem.W.fnOf "_law_row" "_law_row" (defArgs s_law_row) (defBody s_law_row) (defScope s_law_row) .none kV_law_row dc_law_row pm_law_row an_law_row cd_law_row ct_law_row), sl_law_row⟩)
    (l_law_rows : K.lookup a_law_rows = some ⟨oc_law_rows, od_law_rows, .func (PySem.W.fnOf "_law_rows" "_law_rows" (defArgs s_law_rows) (defBody s_law_rows) (defScope s_law_rows) .none kV_law_rows dc_law_rows pm_law_rows an_law_rows cd_law_rows ct_law_rows), sl_law_rows⟩)
    (l_law_steps : K.lookup a_law_steps = some ⟨oc_law_steps, od_law_steps, .func (PySem.W.fnOf "_law_steps" "_law_steps" (defArgs s_law_steps) (defBody s_law_steps) (defScope s_law_steps) .none kV_law_steps dc_law_steps pm_law_steps an_law_steps cd_law_steps ct_law_steps), sl_law_steps⟩)
    (l_law_time : K.lookup a_law_time = some ⟨oc_law_time, od_law_time, .func (PySem.W.fnOf "_law_time" "_law_time" (defArgs s_law_time) (defBody s_law_time) (defScope s_law_time) .none kV_law_time dc_law_time pm_law_time an_law_time cd_law_time ct_law_time), sl_law_time⟩)
    (l_law_told : K.lookup a_law_told = some ⟨oc_law_told, od_law_told, .func (PySem.W.fnOf "_law_told" "_law_told" (defArgs s_law_told) (defBody s_law_told) (defScope s_law_told) .none kV_law_told dc_law_told pm_law_told an_law_told cd_law_told ct_law_told), sl_law_told⟩)
    (l_law_is_number : K.lookup a_law_is_number = some ⟨oc_law_is_number, od_law_is_number, .func (PySem.W.fnOf "_law_is_number" "_law_is_number" (defArgs s_law_is_number) (defBody s_law_is_number) (defScope s_law_is_number) .none kV_law_is_number dc_law_is_number pm_law_is_number an_law_is_number cd_law_is_number ct_law_is_number), sl_law_is_number⟩)
    (l_law_unbroken : K.lookup a_law_unbroken = some ⟨oc_law_unbroken, od_law_unbroken, .func (PySem.W.fnOf "_law_unbroken" "_law_unbroken" (defArgs s_law_unbroken) (defBody s_law_unbroken) (defScope s_law_unbroken) .none kV_law_unbroken dc_law_unbroken pm_law_unbroken an_law_unbroken cd_law_unbroken ct_law_unbroken), sl_law_unbroken⟩)
    (l_law_bad_index : K.lookup a_law_bad_index = some ⟨oc_law_bad_index, od_law_bad_index, .func (PySem.W.fnOf "_law_bad_index" "_law_bad_index" (defArgs s_law_bad_index) (defBody s_law_bad_index) (defScope s_law_bad_index) .none kV_law_bad_index dc_law_bad_index pm_law_bad_index an_law_bad_index cd_law_bad_index ct_law_bad_index), sl_law_bad_index⟩)
    (l_law_bad_year : K.lookup a_law_bad_year = some ⟨oc_law_bad_year, od_law_bad_year, .func (PySem.W.fnOf "_law_bad_year" "_law_bad_year" (defArgs s_law_bad_year) (defBody s_law_bad_year) (defScope s_law_bad_year) .none kV_law_bad_year dc_law_bad_year pm_law_bad_year an_law_bad_year cd_law_bad_year ct_law_bad_year), sl_law_bad_year⟩)
    (l_law_due : K.lookup a_law_due = some ⟨oc_law_due, od_law_due, .func (PySem.W.fnOf "_law_due" "_law_due" (defArgs s_law_due) (defBody s_law_due) (defScope s_law_due) .none kV_law_due dc_law_due pm_law_due an_law_due cd_law_due ct_law_due), sl_law_due⟩)
    (l_law_checked : K.lookup a_law_checked = some ⟨oc_law_checked, od_law_checked, .func (PySem.W.fnOf "_law_checked" "_law_checked" (defArgs s_law_checked) (defBody s_law_checked) (defScope s_law_checked) .none kV_law_checked dc_law_checked pm_law_checked an_law_checked cd_law_checked ct_law_checked), sl_law_checked⟩)
    (l_law_refused : K.lookup a_law_refused = some ⟨oc_law_refused, od_law_refused, .func (PySem.W.fnOf "_law_refused" "_law_refused" (defArgs s_law_refused) (defBody s_law_refused) (defScope s_law_refused) .none kV_law_refused dc_law_refused pm_law_refused an_law_refused cd_law_refused ct_law_refused), sl_law_refused⟩)
    (l_law_free_spans : K.lookup a_law_free_spans = some ⟨oc_law_free_spans, od_law_free_spans, .func (PySem.W.fnOf "_law_free_spans" "_law_free_spans" (defArgs s_law_free_spans) (defBody s_law_free_spans) (defScope s_law_free_spans) .none kV_law_free_spans dc_law_free_spans pm_law_free_spans an_law_free_spans cd_law_free_spans ct_law_free_spans), sl_law_free_spans⟩)
    (l_law_other_years : K.lookup a_law_other_years = some ⟨oc_law_other_years, od_law_other_years, .func (PySem.W.fnOf "_law_other_years" "_law_other_years" (defArgs s_law_other_years) (defBody s_law_other_years) (defScope s_law_other_years) .none kV_law_other_years dc_law_other_years pm_law_other_years an_law_other_years cd_law_other_years ct_law_other_years), sl_law_other_years⟩)
    (l_law_other_order : K.lookup a_law_other_order = some ⟨oc_law_other_order, od_law_other_order, .func (PySem.W.fnOf "_law_other_order" "_law_other_order" (defArgs s_law_other_order) (defBody s_law_other_order) (defScope s_law_other_order) .none kV_law_other_order dc_law_other_order pm_law_other_order an_law_other_order cd_law_other_order ct_law_other_order), sl_law_other_order⟩)
    (l_law_bad_spans : K.lookup a_law_bad_spans = some ⟨oc_law_bad_spans, od_law_bad_spans, .func (PySem.W.fnOf "_law_bad_spans" "_law_bad_spans" (defArgs s_law_bad_spans) (defBody s_law_bad_spans) (defScope s_law_bad_spans) .none kV_law_bad_spans dc_law_bad_spans pm_law_bad_spans an_law_bad_spans cd_law_bad_spans ct_law_bad_spans), sl_law_bad_spans⟩)
    (l_law_bounds_right : K.lookup a_law_bounds_right = some ⟨oc_law_bounds_right, od_law_bounds_right, .func (PySem.W.fnOf "_law_bounds_right" "_law_bounds_right" (defArgs s_law_bounds_right) (defBody s_law_bounds_right) (defScope s_law_bounds_right) .none kV_law_bounds_right dc_law_bounds_right pm_law_bounds_right an_law_bounds_right cd_law_bounds_right ct_law_bounds_right), sl_law_bounds_right⟩)
    (l_law_many_right : K.lookup a_law_many_right = some ⟨oc_law_many_right, od_law_many_right, .func (PySem.W.fnOf "_law_many_right" "_law_many_right" (defArgs s_law_many_right) (defBody s_law_many_right) (defScope s_law_many_right) .none kV_law_many_right dc_law_many_right pm_law_many_right an_law_many_right cd_law_many_right ct_law_many_right), sl_law_many_right⟩)
    (l_law : K.lookup a_law = some ⟨oc_law, od_law, .func (PySem.W.fnOf "law" "law" (defArgs s_law) (defBody s_law) (defScope s_law) .none kV_law dc_law pm_law an_law cd_law ct_law), sl_law⟩)
    (lx_BadOrder_init : K.lookup cda_BadOrder_init = some ⟨oa_BadOrder_init, da_BadOrder_init, .fields vs_BadOrder_init, la_BadOrder_init⟩)
    (lq_BadOrder_init : K.lookup cc_BadOrder_init = some ⟨ob_BadOrder_init, db_BadOrder_init, .cell (some (.ref C_BadOrder)), lb_BadOrder_init⟩)
    (lx_BadSpan_init : K.lookup cda_BadSpan_init = some ⟨oa_BadSpan_init, da_BadSpan_init, .fields vs_BadSpan_init, la_BadSpan_init⟩)
    (lq_BadSpan_init : K.lookup cc_BadSpan_init = some ⟨ob_BadSpan_init, db_BadSpan_init, .cell (some (.ref C_BadSpan)), lb_BadSpan_init⟩)
    (lx_BadYears_init : K.lookup cda_BadYears_init = some ⟨oa_BadYears_init, da_BadYears_init, .fields vs_BadYears_init, la_BadYears_init⟩)
    (lq_BadYears_init : K.lookup cc_BadYears_init = some ⟨ob_BadYears_init, db_BadYears_init, .cell (some (.ref C_BadYears)), lb_BadYears_init⟩)
    (lx_BrokenSpan_init : K.lookup cda_BrokenSpan_init = some ⟨oa_BrokenSpan_init, da_BrokenSpan_init, .fields vs_BrokenSpan_init, la_BrokenSpan_init⟩)
    (lq_BrokenSpan_init : K.lookup cc_BrokenSpan_init = some ⟨ob_BrokenSpan_init, db_BrokenSpan_init, .cell (some (.ref C_BrokenSpan)), lb_BrokenSpan_init⟩)
    (c_BadOrder_init : PySem.W.codeIn K (.ref cda_BadOrder_init) "BadOrder.__init__" = true)
    (c_BadSpan_init : PySem.W.codeIn K (.ref cda_BadSpan_init) "BadSpan.__init__" = true)
    (c_BadYears_init : PySem.W.codeIn K (.ref cda_BadYears_init) "BadYears.__init__" = true)
    (c_BrokenSpan_init : PySem.W.codeIn K (.ref cda_BrokenSpan_init) "BrokenSpan.__init__" = true)
    (c_is_name : PySem.W.codeIn K cd_is_name "is_name" = true)
    (k_is_name : PySem.W.keepIn K (.ref a_is_name) = true)
    (c_first_bad_name : PySem.W.codeIn K cd_first_bad_name "first_bad_name" = true)
    (k_first_bad_name : PySem.W.keepIn K (.ref a_first_bad_name) = true)
    (c_first_stray : PySem.W.codeIn K cd_first_stray "first_stray" = true)
    (k_first_stray : PySem.W.keepIn K (.ref a_first_stray) = true)
    (c_order_fault : PySem.W.codeIn K cd_order_fault "order_fault" = true)
    (k_order_fault : PySem.W.keepIn K (.ref a_order_fault) = true)
    (c_count_runs : PySem.W.codeIn K cd_count_runs "count_runs" = true)
    (k_count_runs : PySem.W.keepIn K (.ref a_count_runs) = true)
    (c_runs_of : PySem.W.codeIn K cd_runs_of "runs_of" = true)
    (k_runs_of : PySem.W.keepIn K (.ref a_runs_of) = true)
    (c_check_order : PySem.W.codeIn K cd_check_order "check_order" = true)
    (k_check_order : PySem.W.keepIn K (.ref a_check_order) = true)
    (c_broken : PySem.W.codeIn K cd_broken "broken" = true)
    (k_broken : PySem.W.keepIn K (.ref a_broken) = true)
    (c_is_layout : PySem.W.codeIn K cd_is_layout "is_layout" = true)
    (k_is_layout : PySem.W.keepIn K (.ref a_is_layout) = true)
    (c_check_columns : PySem.W.codeIn K cd_check_columns "check_columns" = true)
    (k_check_columns : PySem.W.keepIn K (.ref a_check_columns) = true)
    (c_check_rows : PySem.W.codeIn K cd_check_rows "_check_rows" = true)
    (k_check_rows : PySem.W.keepIn K (.ref a_check_rows) = true)
    (c_Table_in_order : PySem.W.codeIn K cd_Table_in_order "Table._in_order" = true)
    (k_Table_in_order : PySem.W.keepIn K (.ref a_Table_in_order) = true)
    (c_Table_init : PySem.W.codeIn K cd_Table_init "Table.__init__" = true)
    (k_Table_init : PySem.W.keepIn K (.ref a_Table_init) = true)
    (lt_Table_init : K.lookup TD_Table_init = some ⟨.type "tuple", to_Table_init, .seq #[.ref e_Table_init] tn_Table_init, ts_Table_init⟩)
    (c_Table_getitem : PySem.W.codeIn K cd_Table_getitem "Table.__getitem__" = true)
    (k_Table_getitem : PySem.W.keepIn K (.ref a_Table_getitem) = true)
    (c_Table_len : PySem.W.codeIn K cd_Table_len "Table.__len__" = true)
    (k_Table_len : PySem.W.keepIn K (.ref a_Table_len) = true)
    (c_Table_eq : PySem.W.codeIn K cd_Table_eq "Table.__eq__" = true)
    (k_Table_eq : PySem.W.keepIn K (.ref a_Table_eq) = true)
    (c_Spans_init : PySem.W.codeIn K cd_Spans_init "Spans.__init__" = true)
    (k_Spans_init : PySem.W.keepIn K (.ref a_Spans_init) = true)
    (c_has_time : PySem.W.codeIn K cd_has_time "_has_time" = true)
    (k_has_time : PySem.W.keepIn K (.ref a_has_time) = true)
    (c_are_times : PySem.W.codeIn K cd_are_times "_are_times" = true)
    (k_are_times : PySem.W.keepIn K (.ref a_are_times) = true)
    (c_ends_of : PySem.W.codeIn K cd_ends_of "ends_of" = true)
    (k_ends_of : PySem.W.keepIn K (.ref a_ends_of) = true)
    (c_time_of : PySem.W.codeIn K cd_time_of "time_of" = true)
    (k_time_of : PySem.W.keepIn K (.ref a_time_of) = true)
    (c_check_years : PySem.W.codeIn K cd_check_years "check_years" = true)
    (k_check_years : PySem.W.keepIn K (.ref a_check_years) = true)
    (c_check_layout : PySem.W.codeIn K cd_check_layout "_check_layout" = true)
    (k_check_layout : PySem.W.keepIn K (.ref a_check_layout) = true)
    (c_law_cell : PySem.W.codeIn K cd_law_cell "_law_cell" = true)
    (k_law_cell : PySem.W.keepIn K (.ref a_law_cell) = true)
    (c_law_pool : PySem.W.codeIn K cd_law_pool "_law_pool" = true)
    (k_law_pool : PySem.W.keepIn K (.ref a_law_pool) = true)
    (c_law_size : PySem.W.codeIn K cd_law_size "_law_size" = true)
    (k_law_size : PySem.W.keepIn K (.ref a_law_size) = true)
    (c_law_names : PySem.W.codeIn K cd_law_names "_law_names" = true)
    (k_law_names : PySem.W.keepIn K (.ref a_law_names) = true)
    (c_law_order : PySem.W.codeIn K cd_law_order "_law_order" = true)
    (k_law_order : PySem.W.keepIn K (.ref a_law_order) = true)
    (c_law_row : PySem.W.codeIn K cd_law_row "_law_row" = true)
    (k_law_row : PySem.W.keepIn K (.ref a_law_row) = true)
    (c_law_rows : PySem.W.codeIn K cd_law_rows "_law_rows" = true)
    (k_law_rows : PySem.W.keepIn K (.ref a_law_rows) = true)
    (c_law_steps : PySem.W.codeIn K cd_law_steps "_law_steps" = true)
    (k_law_steps : PySem.W.keepIn K (.ref a_law_steps) = true)
    (c_law_time : PySem.W.codeIn K cd_law_time "_law_time" = true)
    (k_law_time : PySem.W.keepIn K (.ref a_law_time) = true)
    (c_law_told : PySem.W.codeIn K cd_law_told "_law_told" = true)
    (k_law_told : PySem.W.keepIn K (.ref a_law_told) = true)
    (c_law_is_number : PySem.W.codeIn K cd_law_is_number "_law_is_number" = true)
    (k_law_is_number : PySem.W.keepIn K (.ref a_law_is_number) = true)
    (c_law_unbroken : PySem.W.codeIn K cd_law_unbroken "_law_unbroken" = true)
    (k_law_unbroken : PySem.W.keepIn K (.ref a_law_unbroken) = true)
    (c_law_bad_index : PySem.W.codeIn K cd_law_bad_index "_law_bad_index" = true)
    (k_law_bad_index : PySem.W.keepIn K (.ref a_law_bad_index) = true)
    (c_law_bad_year : PySem.W.codeIn K cd_law_bad_year "_law_bad_year" = true)
    (k_law_bad_year : PySem.W.keepIn K (.ref a_law_bad_year) = true)
    (c_law_due : PySem.W.codeIn K cd_law_due "_law_due" = true)
    (k_law_due : PySem.W.keepIn K (.ref a_law_due) = true)
    (c_law_checked : PySem.W.codeIn K cd_law_checked "_law_checked" = true)
    (k_law_checked : PySem.W.keepIn K (.ref a_law_checked) = true)
    (c_law_refused : PySem.W.codeIn K cd_law_refused "_law_refused" = true)
    (k_law_refused : PySem.W.keepIn K (.ref a_law_refused) = true)
    (c_law_free_spans : PySem.W.codeIn K cd_law_free_spans "_law_free_spans" = true)
    (k_law_free_spans : PySem.W.keepIn K (.ref a_law_free_spans) = true)
    (c_law_other_years : PySem.W.codeIn K cd_law_other_years "_law_other_years" = true)
    (k_law_other_years : PySem.W.keepIn K (.ref a_law_other_years) = true)
    (c_law_other_order : PySem.W.codeIn K cd_law_other_order "_law_other_order" = true)
    (k_law_other_order : PySem.W.keepIn K (.ref a_law_other_order) = true)
    (c_law_bad_spans : PySem.W.codeIn K cd_law_bad_spans "_law_bad_spans" = true)
    (k_law_bad_spans : PySem.W.keepIn K (.ref a_law_bad_spans) = true)
    (c_law_bounds_right : PySem.W.codeIn K cd_law_bounds_right "_law_bounds_right" = true)
    (k_law_bounds_right : PySem.W.keepIn K (.ref a_law_bounds_right) = true)
    (c_law_many_right : PySem.W.codeIn K cd_law_many_right "_law_many_right" = true)
    (k_law_many_right : PySem.W.keepIn K (.ref a_law_many_right) = true)
    (c_law : PySem.W.codeIn K cd_law "law" = true)
    (k_law : PySem.W.keepIn K (.ref a_law) = true)
    (pgcl_Table : PySem.W.plainGet K C_Table Str.empty = true)
    (hdcl_Table : PySem.W.hasDictIn K C_Table = true)
    (pocl_Table : PySem.W.plainOver K C_Table = true)
    (sacl_Table : PySem.W.findIn K (.ref C_Table) "__setattr__" = some (some (.builtin "object.__setattr__")))
    (xsf_Table : PySem.W.selfFirst K C_Table = true)
    (kmk_Table : PySem.W.makesIn K C_Table = true)
    (kkmk_Table : PySem.W.keepIn K (.ref C_Table) = true)
    (xc1_Table : PySem.W.findIn K (.ref C_Table) "__class__" = some (some (.builtin "object.__class__")))
    (xc3_Table : PySem.W.mroIn K C_Table (.type "object") = some true)
    (xn_Table_columns : PySem.W.findIn K (.ref C_Table) "columns" = some none)
    (xn_Table_rows : PySem.W.findIn K (.ref C_Table) "rows" = some none)
    (pgcl_Spans : PySem.W.plainGet K C_Spans Str.empty = true)
    (hdcl_Spans : PySem.W.hasDictIn K C_Spans = true)
    (pocl_Spans : PySem.W.plainOver K C_Spans = true)
    (sacl_Spans : PySem.W.findIn K (.ref C_Spans) "__setattr__" = some (some (.builtin "object.__setattr__")))
    (xsf_Spans : PySem.W.selfFirst K C_Spans = true)
    (kmk_Spans : PySem.W.makesIn K C_Spans = true)
    (kkmk_Spans : PySem.W.keepIn K (.ref C_Spans) = true)
    (xc1_Spans : PySem.W.findIn K (.ref C_Spans) "__class__" = some (some (.builtin "object.__class__")))
    (xc3_Spans : PySem.W.mroIn K C_Spans (.type "object") = some true)
    (xn_Spans_table : PySem.W.findIn K (.ref C_Spans) "table" = some none)
    (xn_Spans_told : PySem.W.findIn K (.ref C_Spans) "told" = some none)
    (xc2 : PySem.W.specialIn K (.builtin "object.__class__") "__get__" = some (some (.builtin "getset_descriptor.__get__")))
    (xc4 : PySem.W.takesIn K (.builtin "object.__class__") = some true)
    (xtp_RowsError : PySem.W.typeIn K (.ref C_RowsError) = some (.type "type"))
    (xic_RowsError : PySem.W.isClsIn K C_RowsError = true)
    (xtp_Unknown : PySem.W.typeIn K (.ref C_Unknown) = some (.type "type"))
    (xic_Unknown : PySem.W.isClsIn K C_Unknown = true)
    (xtp_Impossible : PySem.W.typeIn K (.ref C_Impossible) = some (.type "type"))
    (xic_Impossible : PySem.W.isClsIn K C_Impossible = true)
    (xtp_BadOrder : PySem.W.typeIn K (.ref C_BadOrder) = some (.type "type"))
    (xic_BadOrder : PySem.W.isClsIn K C_BadOrder = true)
    (xtp_BadSpan : PySem.W.typeIn K (.ref C_BadSpan) = some (.type "type"))
    (xic_BadSpan : PySem.W.isClsIn K C_BadSpan = true)
    (xtp_BadYears : PySem.W.typeIn K (.ref C_BadYears) = some (.type "type"))
    (xic_BadYears : PySem.W.isClsIn K C_BadYears = true)
    (xtp_BrokenSpan : PySem.W.typeIn K (.ref C_BrokenSpan) = some (.type "type"))
    (xic_BrokenSpan : PySem.W.isClsIn K C_BrokenSpan = true)
    (xtp_NotLayout : PySem.W.typeIn K (.ref C_NotLayout) = some (.type "type"))
    (xic_NotLayout : PySem.W.isClsIn K C_NotLayout = true)
    (g1SC_BadOrder : PySem.W.clsIn K C_BadOrder = some cd_BadOrder)
    (g2SC_BadOrder : PySem.W.mroIn K C_BadOrder (.ref C_BadOrder) = some true)
    (ksSC_BadOrder : PySem.W.ks_superIn K C_BadOrder C_BadOrder "__init__" = some (some (.builtin "ValueError.__init__")))
    (g4SC_BadOrder : PySem.W.nsIn K PySem.cStatics "thirdparty.any" = some none)
    (g5SC_BadOrder : PySem.W.nsIn K mainGlobals "super" = some none)
    (rfSC_BadOrder : (l.prog.main.scope.names.lookup ("super" : Str)).isSome = false)
    (kxSC_BadOrder : PySem.W.excInitIn K C_BadOrder [.type "ValueError", .type "Exception", .type "BaseException", .type "object"] "ValueError.__new__" = true)
    (g6SC_BadOrder : PySem.W.findIn K (.ref C_BadOrder) "__setattr__" = some (some (.builtin "object.__setattr__")))
    (rv_BadOrder_init : vs_BadOrder_init[2]? = some (.str fl_BadOrder_init tf_BadOrder_init))
    (rg_BadOrder_init : ((l.prog.main.file : Str) == fl_BadOrder_init) = true)
    (xti_BadOrder : PySem.W.typeIn K (.ref a_BadOrder_init) = some (.type "function"))
    (xxn_BadOrder_index : PySem.W.findIn K (.ref C_BadOrder) "index" = some none)
    (xk_BadOrder : PySem.W.keepIn K (.ref C_BadOrder) = true)
    (xbp_BadOrder : PySem.W.subIn K (.ref C_BadOrder) (.type "BaseException") = some true)
    (xsv_BadOrder : PySem.W.subIn K (.ref C_BadOrder) (.type "ValueError") = some true)
    (xss_BadOrder : PySem.W.subIn K (.ref C_BadOrder) (.ref C_BadOrder) = some true)
    (xsu_BadOrder_RowsError : PySem.W.subIn K (.ref C_BadOrder) (.ref C_RowsError) = some true)
    (xsu_BadOrder_Unknown : PySem.W.subIn K (.ref C_BadOrder) (.ref C_Unknown) = some false)
    (xsu_BadOrder_Impossible : PySem.W.subIn K (.ref C_BadOrder) (.ref C_Impossible) = some false)
    (xe1_BadOrder : PySem.W.findIn K (.ref C_BadOrder) "__getattribute__" = some (some (.builtin "BaseException.__getattribute__")))
    (xe2_BadOrder : PySem.W.findIn K (.ref C_BadOrder) "__getattr__" = some none)
    (xe3_BadOrder : PySem.W.hasDictIn K C_BadOrder = true)
    (xe4_BadOrder : PySem.W.findIn K (.ref C_BadOrder) "__class__" = some (some (.builtin "object.__class__")))
    (xe5_BadOrder : PySem.W.mroIn K C_BadOrder (.type "object") = some true)
    (g1SC_BadSpan : PySem.W.clsIn K C_BadSpan = some cd_BadSpan)
    (g2SC_BadSpan : PySem.W.mroIn K C_BadSpan (.ref C_BadSpan) = some true)
    (ksSC_BadSpan : PySem.W.ks_superIn K C_BadSpan C_BadSpan "__init__" = some (some (.builtin "ValueError.__init__")))
    (g4SC_BadSpan : PySem.W.nsIn K PySem.cStatics "thirdparty.any" = some none)
    (g5SC_BadSpan : PySem.W.nsIn K mainGlobals "super" = some none)
    (rfSC_BadSpan : (l.prog.main.scope.names.lookup ("super" : Str)).isSome = false)
    (kxSC_BadSpan : PySem.W.excInitIn K C_BadSpan [.type "ValueError", .type "Exception", .type "BaseException", .type "object"] "ValueError.__new__" = true)
    (g6SC_BadSpan : PySem.W.findIn K (.ref C_BadSpan) "__setattr__" = some (some (.builtin "object.__setattr__")))
    (rv_BadSpan_init : vs_BadSpan_init[2]? = some (.str fl_BadSpan_init tf_BadSpan_init))
    (rg_BadSpan_init : ((l.prog.main.file : Str) == fl_BadSpan_init) = true)
    (xti_BadSpan : PySem.W.typeIn K (.ref a_BadSpan_init) = some (.type "function"))
    (xxn_BadSpan_index : PySem.W.findIn K (.ref C_BadSpan) "index" = some none)
    (xk_BadSpan : PySem.W.keepIn K (.ref C_BadSpan) = true)
    (xbp_BadSpan : PySem.W.subIn K (.ref C_BadSpan) (.type "BaseException") = some true)
    (xsv_BadSpan : PySem.W.subIn K (.ref C_BadSpan) (.type "ValueError") = some true)
    (xss_BadSpan : PySem.W.subIn K (.ref C_BadSpan) (.ref C_BadSpan) = some true)
    (xsu_BadSpan_RowsError : PySem.W.subIn K (.ref C_BadSpan) (.ref C_RowsError) = some true)
    (xsu_BadSpan_Unknown : PySem.W.subIn K (.ref C_BadSpan) (.ref C_Unknown) = some false)
    (xsu_BadSpan_Impossible : PySem.W.subIn K (.ref C_BadSpan) (.ref C_Impossible) = some false)
    (xe1_BadSpan : PySem.W.findIn K (.ref C_BadSpan) "__getattribute__" = some (some (.builtin "BaseException.__getattribute__")))
    (xe2_BadSpan : PySem.W.findIn K (.ref C_BadSpan) "__getattr__" = some none)
    (xe3_BadSpan : PySem.W.hasDictIn K C_BadSpan = true)
    (xe4_BadSpan : PySem.W.findIn K (.ref C_BadSpan) "__class__" = some (some (.builtin "object.__class__")))
    (xe5_BadSpan : PySem.W.mroIn K C_BadSpan (.type "object") = some true)
    (g1SC_BadYears : PySem.W.clsIn K C_BadYears = some cd_BadYears)
    (g2SC_BadYears : PySem.W.mroIn K C_BadYears (.ref C_BadYears) = some true)
    (ksSC_BadYears : PySem.W.ks_superIn K C_BadYears C_BadYears "__init__" = some (some (.builtin "ValueError.__init__")))
    (g4SC_BadYears : PySem.W.nsIn K PySem.cStatics "thirdparty.any" = some none)
    (g5SC_BadYears : PySem.W.nsIn K mainGlobals "super" = some none)
    (rfSC_BadYears : (l.prog.main.scope.names.lookup ("super" : Str)).isSome = false)
    (kxSC_BadYears : PySem.W.excInitIn K C_BadYears [.type "ValueError", .type "Exception", .type "BaseException", .type "object"] "ValueError.__new__" = true)
    (g6SC_BadYears : PySem.W.findIn K (.ref C_BadYears) "__setattr__" = some (some (.builtin "object.__setattr__")))
    (rv_BadYears_init : vs_BadYears_init[2]? = some (.str fl_BadYears_init tf_BadYears_init))
    (rg_BadYears_init : ((l.prog.main.file : Str) == fl_BadYears_init) = true)
    (xti_BadYears : PySem.W.typeIn K (.ref a_BadYears_init) = some (.type "function"))
    (xxn_BadYears_index : PySem.W.findIn K (.ref C_BadYears) "index" = some none)
    (xk_BadYears : PySem.W.keepIn K (.ref C_BadYears) = true)
    (xbp_BadYears : PySem.W.subIn K (.ref C_BadYears) (.type "BaseException") = some true)
    (xsv_BadYears : PySem.W.subIn K (.ref C_BadYears) (.type "ValueError") = some true)
    (xss_BadYears : PySem.W.subIn K (.ref C_BadYears) (.ref C_BadYears) = some true)
    (xsu_BadYears_RowsError : PySem.W.subIn K (.ref C_BadYears) (.ref C_RowsError) = some true)
    (xsu_BadYears_Unknown : PySem.W.subIn K (.ref C_BadYears) (.ref C_Unknown) = some false)
    (xsu_BadYears_Impossible : PySem.W.subIn K (.ref C_BadYears) (.ref C_Impossible) = some false)
    (xsu_BadYears_BadOrder : PySem.W.subIn K (.ref C_BadYears) (.ref C_BadOrder) = some false)
    (xsu_BadYears_NotLayout : PySem.W.subIn K (.ref C_BadYears) (.ref C_NotLayout) = some false)
    (xe1_BadYears : PySem.W.findIn K (.ref C_BadYears) "__getattribute__" = some (some (.builtin "BaseException.__getattribute__")))
    (xe2_BadYears : PySem.W.findIn K (.ref C_BadYears) "__getattr__" = some none)
    (xe3_BadYears : PySem.W.hasDictIn K C_BadYears = true)
    (xe4_BadYears : PySem.W.findIn K (.ref C_BadYears) "__class__" = some (some (.builtin "object.__class__")))
    (xe5_BadYears : PySem.W.mroIn K C_BadYears (.type "object") = some true)
    (g1SC_BrokenSpan : PySem.W.clsIn K C_BrokenSpan = some cd_BrokenSpan)
    (g2SC_BrokenSpan : PySem.W.mroIn K C_BrokenSpan (.ref C_BrokenSpan) = some true)
    (ksSC_BrokenSpan : PySem.W.ks_superIn K C_BrokenSpan C_BrokenSpan "__init__" = some (some (.builtin "ValueError.__init__")))
    (g4SC_BrokenSpan : PySem.W.nsIn K PySem.cStatics "thirdparty.any" = some none)
    (g5SC_BrokenSpan : PySem.W.nsIn K mainGlobals "super" = some none)
    (rfSC_BrokenSpan : (l.prog.main.scope.names.lookup ("super" : Str)).isSome = false)
    (kxSC_BrokenSpan : PySem.W.excInitIn K C_BrokenSpan [.type "ValueError", .type "Exception", .type "BaseException", .type "object"] "ValueError.__new__" = true)
    (g6SC_BrokenSpan : PySem.W.findIn K (.ref C_BrokenSpan) "__setattr__" = some (some (.builtin "object.__setattr__")))
    (rv_BrokenSpan_init : vs_BrokenSpan_init[2]? = some (.str fl_BrokenSpan_init tf_BrokenSpan_init))
    (rg_BrokenSpan_init : ((l.prog.main.file : Str) == fl_BrokenSpan_init) = true)
    (xti_BrokenSpan : PySem.W.typeIn K (.ref a_BrokenSpan_init) = some (.type "function"))
    (xxn_BrokenSpan_index : PySem.W.findIn K (.ref C_BrokenSpan) "index" = some none)
    (xk_BrokenSpan : PySem.W.keepIn K (.ref C_BrokenSpan) = true)
    (xbp_BrokenSpan : PySem.W.subIn K (.ref C_BrokenSpan) (.type "BaseException") = some true)
    (xsv_BrokenSpan : PySem.W.subIn K (.ref C_BrokenSpan) (.type "ValueError") = some true)
    (xss_BrokenSpan : PySem.W.subIn K (.ref C_BrokenSpan) (.ref C_BrokenSpan) = some true)
    (xsu_BrokenSpan_RowsError : PySem.W.subIn K (.ref C_BrokenSpan) (.ref C_RowsError) = some true)
    (xsu_BrokenSpan_Unknown : PySem.W.subIn K (.ref C_BrokenSpan) (.ref C_Unknown) = some false)
    (xsu_BrokenSpan_Impossible : PySem.W.subIn K (.ref C_BrokenSpan) (.ref C_Impossible) = some false)
    (xsu_BrokenSpan_BadOrder : PySem.W.subIn K (.ref C_BrokenSpan) (.ref C_BadOrder) = some false)
    (xsu_BrokenSpan_NotLayout : PySem.W.subIn K (.ref C_BrokenSpan) (.ref C_NotLayout) = some false)
    (xsu_BrokenSpan_BadYears : PySem.W.subIn K (.ref C_BrokenSpan) (.ref C_BadYears) = some false)
    (xe1_BrokenSpan : PySem.W.findIn K (.ref C_BrokenSpan) "__getattribute__" = some (some (.builtin "BaseException.__getattribute__")))
    (xe2_BrokenSpan : PySem.W.findIn K (.ref C_BrokenSpan) "__getattr__" = some none)
    (xe3_BrokenSpan : PySem.W.hasDictIn K C_BrokenSpan = true)
    (xe4_BrokenSpan : PySem.W.findIn K (.ref C_BrokenSpan) "__class__" = some (some (.builtin "object.__class__")))
    (xe5_BrokenSpan : PySem.W.mroIn K C_BrokenSpan (.type "object") = some true)
    (xx_NotLayout : PySem.W.excIn K C_NotLayout [.type "ValueError", .type "Exception", .type "BaseException", .type "object"] "ValueError.__new__" = true)
    (xk_NotLayout : PySem.W.keepIn K (.ref C_NotLayout) = true)
    (xbp_NotLayout : PySem.W.subIn K (.ref C_NotLayout) (.type "BaseException") = some true)
    (xsv_NotLayout : PySem.W.subIn K (.ref C_NotLayout) (.type "ValueError") = some true)
    (xss_NotLayout : PySem.W.subIn K (.ref C_NotLayout) (.ref C_NotLayout) = some true)
    (xsu_NotLayout_RowsError : PySem.W.subIn K (.ref C_NotLayout) (.ref C_RowsError) = some true)
    (xsu_NotLayout_Unknown : PySem.W.subIn K (.ref C_NotLayout) (.ref C_Unknown) = some false)
    (xsu_NotLayout_Impossible : PySem.W.subIn K (.ref C_NotLayout) (.ref C_Impossible) = some false)
    (xsu_NotLayout_BadOrder : PySem.W.subIn K (.ref C_NotLayout) (.ref C_BadOrder) = some false)
    (xe1_NotLayout : PySem.W.findIn K (.ref C_NotLayout) "__getattribute__" = some (some (.builtin "BaseException.__getattribute__")))
    (xe2_NotLayout : PySem.W.findIn K (.ref C_NotLayout) "__getattr__" = some none)
    (xe3_NotLayout : PySem.W.hasDictIn K C_NotLayout = true)
    (xe4_NotLayout : PySem.W.findIn K (.ref C_NotLayout) "__class__" = some (some (.builtin "object.__class__")))
    (xe5_NotLayout : PySem.W.mroIn K C_NotLayout (.type "object") = some true)
    (r1cr_Table : PySem.W.readsIn K C_Table (.type "type") = true)
    (r2cr_Table : PySem.W.specialIn K (.ref C_Table) "__getattribute__" = some (some (.builtin "type.__getattribute__")))
    (xcv_Table_MOST_COLUMNS : PySem.W.findCls K (.ref C_Table) (.type "type") "MOST_COLUMNS" = some (.val (.int 12 tk_Table_MOST_COLUMNS)))
    (xcv_Table_MOST_ROWS : PySem.W.findCls K (.ref C_Table) (.type "type") "MOST_ROWS" = some (.val (.int 48 tk_Table_MOST_ROWS)))
    (xn_abs : PySem.W.nsIn K mainGlobals "abs" = some none)
    (xn_int : PySem.W.nsIn K mainGlobals "int" = some none)
    (xn_isinstance : PySem.W.nsIn K mainGlobals "isinstance" = some none)
    (xn_range : PySem.W.nsIn K mainGlobals "range" = some none)
    (xn_len : PySem.W.nsIn K mainGlobals "len" = some none)
    (xn_str : PySem.W.nsIn K mainGlobals "str" = some none)
    (xn_tuple : PySem.W.nsIn K mainGlobals "tuple" = some none)
    (xn_list : PySem.W.nsIn K mainGlobals "list" = some none)
    (xn_ValueError : PySem.W.nsIn K mainGlobals "ValueError" = some none)
    (xn_all : PySem.W.nsIn K mainGlobals "all" = some none)
    (xn_min : PySem.W.nsIn K mainGlobals "min" = some none)
    (xn_max : PySem.W.nsIn K mainGlobals "max" = some none)
    (xn_enumerate : PySem.W.nsIn K mainGlobals "enumerate" = some none)
    (xn_bool : PySem.W.nsIn K mainGlobals "bool" = some none)
    (xn_sorted : PySem.W.nsIn K mainGlobals "sorted" = some none)
    : ∃ fd : FuncData, (∀ (s : Shared) (v : Value), BindsTo s fd ⟨[v], []⟩ [("script", v)]) ∧ ∀ base : Heap, K.In base → base.Ns mainGlobals mg → FnOk l.prog w K mg base CX0 20 fa fd ["script"] (spLaw K) := by
  have e := hfa.symm.trans (PySem.W.mg_of X G xmg_law)
  cases e
  have T : Txt l.prog K mg ⟨C_Table, C_Spans, C_RowsError, C_Unknown, C_Impossible, C_BadOrder, C_BadSpan, C_BadYears, C_BrokenSpan, C_NotLayout, a_BadOrder_init, _, a_BadSpan_init, _, a_BadYears_init, _, a_BrokenSpan_init, _, a_is_name, _, a_first_bad_name, _, a_first_stray, _, a_order_fault, _, a_count_runs, _, a_runs_of, _, a_check_order, _, a_broken, _, a_is_layout, _, a_check_columns, _, a_check_rows, _, a_Table_in_order, _, a_Table_init, _, a_Table_getitem, _, a_Table_len, _, a_Table_eq, _, a_Spans_init, _, a_has_time, _, a_are_times, _, a_ends_of, _, a_time_of, _, a_check_years, _, a_check_layout, _, a_law_cell, _, a_law_pool, _, a_law_size, _, a_law_names, _, a_law_order, _, a_law_row, _, a_law_rows, _, a_law_steps, _, a_law_time, _, a_law_told, _, a_law_is_number, _, a_law_unbroken, _, a_law_bad_index, _, a_law_bad_year, _, a_law_due, _, a_law_checked, _, a_law_refused, _, a_law_free_spans, _, a_law_other_years, _, a_law_other_order, _, a_law_bad_spans, _, a_law_bounds_right, _, a_law_many_right, _, fa, _, e_Table_init⟩ := {
    mg_Table := PySem.W.mg_of X G xmg_Table
    cl_Table := ⟨pgcl_Table, hdcl_Table, pocl_Table, sacl_Table⟩
    sf_Table := xsf_Table
    mk_Table := ⟨kmk_Table, am_Table_init, if_Table_init, kkmk_Table⟩
    c1_Table := xc1_Table
    c3_Table := xc3_Table
    n_Table_columns := xn_Table_columns
    n_Table_rows := xn_Table_rows
    mg_Spans := PySem.W.mg_of X G xmg_Spans
    cl_Spans := ⟨pgcl_Spans, hdcl_Spans, pocl_Spans, sacl_Spans⟩
    sf_Spans := xsf_Spans
    mk_Spans := ⟨kmk_Spans, am_Spans_init, if_Spans_init, kkmk_Spans⟩
    c1_Spans := xc1_Spans
    c3_Spans := xc3_Spans
    n_Spans_table := xn_Spans_table
    n_Spans_told := xn_Spans_told
    c2 := xc2
    c4 := xc4
    mg_RowsError := PySem.W.mg_of X G xmg_RowsError
    tp_RowsError := xtp_RowsError
    ic_RowsError := xic_RowsError
    mg_Unknown := PySem.W.mg_of X G xmg_Unknown
    tp_Unknown := xtp_Unknown
    ic_Unknown := xic_Unknown
    mg_Impossible := PySem.W.mg_of X G xmg_Impossible
    tp_Impossible := xtp_Impossible
    ic_Impossible := xic_Impossible
    mg_BadOrder := PySem.W.mg_of X G xmg_BadOrder
    tp_BadOrder := xtp_BadOrder
    ic_BadOrder := xic_BadOrder
    mg_BadSpan := PySem.W.mg_of X G xmg_BadSpan
    tp_BadSpan := xtp_BadSpan
    ic_BadSpan := xic_BadSpan
    mg_BadYears := PySem.W.mg_of X G xmg_BadYears
    tp_BadYears := xtp_BadYears
    ic_BadYears := xic_BadYears
    mg_BrokenSpan := PySem.W.mg_of X G xmg_BrokenSpan
    tp_BrokenSpan := xtp_BrokenSpan
    ic_BrokenSpan := xic_BrokenSpan
    mg_NotLayout := PySem.W.mg_of X G xmg_NotLayout
    tp_NotLayout := xtp_NotLayout
    ic_NotLayout := xic_NotLayout
    SC_BadOrder := ⟨⟨_, g1SC_BadOrder⟩, g2SC_BadOrder, ksSC_BadOrder, g4SC_BadOrder, xsv_BadOrder, PySem.W.mg_none_of X G g5SC_BadOrder, rfSC_BadOrder, oex_of kxSC_BadOrder xe3_BadOrder g6SC_BadOrder xbp_BadOrder xtp_BadOrder xk_BadOrder⟩
    SF_BadOrder := ⟨⟨_, _, _, _, _, _, _, _, _, _, rfl, l_BadOrder_init, c_BadOrder_init, ⟨_, _, _, _, _, _, lx_BadOrder_init, rv_BadOrder_init, rg_BadOrder_init⟩, _, _, _, lq_BadOrder_init⟩⟩
    ii_BadOrder := am_BadOrder_init
    ti_BadOrder := xti_BadOrder
    b_BadOrder_init := fun s us _ hl => by rw [List.append_nil] at hl ⊢; exact .of_eq (match us, hl with | [_, _], _ => rfl)
    xn_BadOrder_index := xxn_BadOrder_index
    xf_BadOrder := ⟨xe1_BadOrder, xe2_BadOrder, xbp_BadOrder, xe3_BadOrder⟩
    ec_BadOrder := ⟨xe1_BadOrder, xe2_BadOrder, xbp_BadOrder, xe3_BadOrder, xe4_BadOrder, xc2, xc4, xe5_BadOrder⟩
    k_BadOrder := xk_BadOrder
    bp_BadOrder := xbp_BadOrder
    sv_BadOrder := xsv_BadOrder
    ss_BadOrder := xss_BadOrder
    su_BadOrder_RowsError := xsu_BadOrder_RowsError
    su_BadOrder_Unknown := xsu_BadOrder_Unknown
    su_BadOrder_Impossible := xsu_BadOrder_Impossible
    e1_BadOrder := xe1_BadOrder
    e2_BadOrder := xe2_BadOrder
    e3_BadOrder := xe3_BadOrder
    e4_BadOrder := xe4_BadOrder
    e5_BadOrder := xe5_BadOrder
    SC_BadSpan := ⟨⟨_, g1SC_BadSpan⟩, g2SC_BadSpan, ksSC_BadSpan, g4SC_BadSpan, xsv_BadSpan, PySem.W.mg_none_of X G g5SC_BadSpan, rfSC_BadSpan, oex_of kxSC_BadSpan xe3_BadSpan g6SC_BadSpan xbp_BadSpan xtp_BadSpan xk_BadSpan⟩
    SF_BadSpan := ⟨⟨_, _, _, _, _, _, _, _, _, _, rfl, l_BadSpan_init, c_BadSpan_init, ⟨_, _, _, _, _, _, lx_BadSpan_init, rv_BadSpan_init, rg_BadSpan_init⟩, _, _, _, lq_BadSpan_init⟩⟩
    ii_BadSpan := am_BadSpan_init
    ti_BadSpan := xti_BadSpan
    b_BadSpan_init := fun s us _ hl => by rw [List.append_nil] at hl ⊢; exact .of_eq (match us, hl with | [_, _], _ => rfl)
    xn_BadSpan_index := xxn_BadSpan_index
    xf_BadSpan := ⟨xe1_BadSpan, xe2_BadSpan, xbp_BadSpan, xe3_BadSpan⟩
    ec_BadSpan := ⟨xe1_BadSpan, xe2_BadSpan, xbp_BadSpan, xe3_BadSpan, xe4_BadSpan, xc2, xc4, xe5_BadSpan⟩
    k_BadSpan := xk_BadSpan
    bp_BadSpan := xbp_BadSpan
    sv_BadSpan := xsv_BadSpan
    ss_BadSpan := xss_BadSpan
    su_BadSpan_RowsError := xsu_BadSpan_RowsError
    su_BadSpan_Unknown := xsu_BadSpan_Unknown
    su_BadSpan_Impossible := xsu_BadSpan_Impossible
    e1_BadSpan := xe1_BadSpan
    e2_BadSpan := xe2_BadSpan
    e3_BadSpan := xe3_BadSpan
    e4_BadSpan := xe4_BadSpan
    e5_BadSpan := xe5_BadSpan
    SC_BadYears := ⟨⟨_, g1SC_BadYears⟩, g2SC_BadYears, ksSC_BadYears, g4SC_BadYears, xsv_BadYears, PySem.W.mg_none_of X G g5SC_BadYears, rfSC_BadYears, oex_of kxSC_BadYears xe3_BadYears g6SC_BadYears xbp_BadYears xtp_BadYears xk_BadYears⟩
    SF_BadYears := ⟨⟨_, _, _, _, _, _, _, _, _, _, rfl, l_BadYears_init, c_BadYears_init, ⟨_, _, _, _, _, _, lx_BadYears_init, rv_BadYears_init, rg_BadYears_init⟩, _, _, _, lq_BadYears_init⟩⟩
    ii_BadYears := am_BadYears_init
    ti_BadYears := xti_BadYears
    b_BadYears_init := fun s us _ hl => by rw [List.append_nil] at hl ⊢; exact .of_eq (match us, hl with | [_, _], _ => rfl)
    xn_BadYears_index := xxn_BadYears_index
    xf_BadYears := ⟨xe1_BadYears, xe2_BadYears, xbp_BadYears, xe3_BadYears⟩
    ec_BadYears := ⟨xe1_BadYears, xe2_BadYears, xbp_BadYears, xe3_BadYears, xe4_BadYears, xc2, xc4, xe5_BadYears⟩
    k_BadYears := xk_BadYears
    bp_BadYears := xbp_BadYears
    sv_BadYears := xsv_BadYears
    ss_BadYears := xss_BadYears
    su_BadYears_RowsError := xsu_BadYears_RowsError
    su_BadYears_Unknown := xsu_BadYears_Unknown
    su_BadYears_Impossible := xsu_BadYears_Impossible
    su_BadYears_BadOrder := xsu_BadYears_BadOrder
    su_BadYears_NotLayout := xsu_BadYears_NotLayout
    e1_BadYears := xe1_BadYears
    e2_BadYears := xe2_BadYears
    e3_BadYears := xe3_BadYears
    e4_BadYears := xe4_BadYears
    e5_BadYears := xe5_BadYears
    SC_BrokenSpan := ⟨⟨_, g1SC_BrokenSpan⟩, g2SC_BrokenSpan, ksSC_BrokenSpan, g4SC_BrokenSpan, xsv_BrokenSpan, PySem.W.mg_none_of X G g5SC_BrokenSpan, rfSC_BrokenSpan, oex_of kxSC_BrokenSpan xe3_BrokenSpan g6SC_BrokenSpan xbp_BrokenSpan xtp_BrokenSpan xk_BrokenSpan⟩
    SF_BrokenSpan := ⟨⟨_, _, _, _, _, _, _, _, _, _, rfl, l_BrokenSpan_init, c_BrokenSpan_init, ⟨_, _, _, _, _, _, lx_BrokenSpan_init, rv_BrokenSpan_init, rg_BrokenSpan_init⟩, _, _, _, lq_BrokenSpan_init⟩⟩
    ii_BrokenSpan := am_BrokenSpan_init
    ti_BrokenSpan := xti_BrokenSpan
    b_BrokenSpan_init := fun s us _ hl => by rw [List.append_nil] at hl ⊢; exact .of_eq (match us, hl with | [_, _], _ => rfl)
    xn_BrokenSpan_index := xxn_BrokenSpan_index
    xf_BrokenSpan := ⟨xe1_BrokenSpan, xe2_BrokenSpan, xbp_BrokenSpan, xe3_BrokenSpan⟩
    ec_BrokenSpan := ⟨xe1_BrokenSpan, xe2_BrokenSpan, xbp_BrokenSpan, xe3_BrokenSpan, xe4_BrokenSpan, xc2, xc4, xe5_BrokenSpan⟩
    k_BrokenSpan := xk_BrokenSpan
    bp_BrokenSpan := xbp_BrokenSpan
    sv_BrokenSpan := xsv_BrokenSpan
    ss_BrokenSpan := xss_BrokenSpan
    su_BrokenSpan_RowsError := xsu_BrokenSpan_RowsError
    su_BrokenSpan_Unknown := xsu_BrokenSpan_Unknown
    su_BrokenSpan_Impossible := xsu_BrokenSpan_Impossible
    su_BrokenSpan_BadOrder := xsu_BrokenSpan_BadOrder
    su_BrokenSpan_NotLayout := xsu_BrokenSpan_NotLayout
    su_BrokenSpan_BadYears := xsu_BrokenSpan_BadYears
    e1_BrokenSpan := xe1_BrokenSpan
    e2_BrokenSpan := xe2_BrokenSpan
    e3_BrokenSpan := xe3_BrokenSpan
    e4_BrokenSpan := xe4_BrokenSpan
    e5_BrokenSpan := xe5_BrokenSpan
    x_NotLayout := xx_NotLayout
    k_NotLayout := xk_NotLayout
    bp_NotLayout := xbp_NotLayout
    sv_NotLayout := xsv_NotLayout
    ss_NotLayout := xss_NotLayout
    su_NotLayout_RowsError := xsu_NotLayout_RowsError
    su_NotLayout_Unknown := xsu_NotLayout_Unknown
    su_NotLayout_Impossible := xsu_NotLayout_Impossible
    su_NotLayout_BadOrder := xsu_NotLayout_BadOrder
    e1_NotLayout := xe1_NotLayout
    e2_NotLayout := xe2_NotLayout
    e3_NotLayout := xe3_NotLayout
    e4_NotLayout := xe4_NotLayout
    e5_NotLayout := xe5_NotLayout
    mg_LONGEST_NAME := ⟨_, PySem.W.mg_of X G xmg_LONGEST_NAME⟩
    mg_MOST_SPANS := ⟨_, PySem.W.mg_of X G xmg_MOST_SPANS⟩
    mg_MOST_YEARS := ⟨_, PySem.W.mg_of X G xmg_MOST_YEARS⟩
    cr_Table := ⟨r1cr_Table, r2cr_Table⟩
    cv_Table_MOST_COLUMNS := ⟨_, ⟨xcv_Table_MOST_COLUMNS, ⟨_, rfl⟩⟩⟩
    cv_Table_MOST_ROWS := ⟨_, ⟨xcv_Table_MOST_ROWS, ⟨_, rfl⟩⟩⟩
    n_abs := PySem.W.mg_none_of X G xn_abs
    n_int := PySem.W.mg_none_of X G xn_int
    n_isinstance := PySem.W.mg_none_of X G xn_isinstance
    n_range := PySem.W.mg_none_of X G xn_range
    n_len := PySem.W.mg_none_of X G xn_len
    n_str := PySem.W.mg_none_of X G xn_str
    n_tuple := PySem.W.mg_none_of X G xn_tuple
    n_list := PySem.W.mg_none_of X G xn_list
    n_ValueError := PySem.W.mg_none_of X G xn_ValueError
    n_all := PySem.W.mg_none_of X G xn_all
    n_min := PySem.W.mg_none_of X G xn_min
    n_max := PySem.W.mg_none_of X G xn_max
    n_enumerate := PySem.W.mg_none_of X G xn_enumerate
    n_bool := PySem.W.mg_none_of X G xn_bool
    n_sorted := PySem.W.mg_none_of X G xn_sorted
    F_is_name := fun_mk (st := s_is_name) l_is_name c_is_name k_is_name
    b_is_name := (fun_mk (st := s_is_name) l_is_name c_is_name k_is_name).binds fun _ _ _ _ _ _ us hl => match us, hl with | [_], _ => rfl
    mg_is_name := PySem.W.mg_of X G xmg_is_name
    F_first_bad_name := fun_mk (st := s_first_bad_name) l_first_bad_name c_first_bad_name k_first_bad_name
    b_first_bad_name := (fun_mk (st := s_first_bad_name) l_first_bad_name c_first_bad_name k_first_bad_name).binds fun _ _ _ _ _ _ us hl => match us, hl with | [_], _ => rfl
    mg_first_bad_name := PySem.W.mg_of X G xmg_first_bad_name
    F_first_stray := fun_mk (st := s_first_stray) l_first_stray c_first_stray k_first_stray
    b_first_stray := (fun_mk (st := s_first_stray) l_first_stray c_first_stray k_first_stray).binds fun _ _ _ _ _ _ us hl => match us, hl with | [_, _], _ => rfl
    mg_first_stray := PySem.W.mg_of X G xmg_first_stray
    F_order_fault := fun_mk (st := s_order_fault) l_order_fault c_order_fault k_order_fault
    b_order_fault := (fun_mk (st := s_order_fault) l_order_fault c_order_fault k_order_fault).binds fun _ _ _ _ _ _ us hl => match us, hl with | [_, _], _ => rfl
    mg_order_fault := PySem.W.mg_of X G xmg_order_fault
    F_count_runs := fun_mk (st := s_count_runs) l_count_runs c_count_runs k_count_runs
    b_count_runs := (fun_mk (st := s_count_runs) l_count_runs c_count_runs k_count_runs).binds fun _ _ _ _ _ _ us hl => match us, hl with | [_], _ => rfl
    mg_count_runs := PySem.W.mg_of X G xmg_count_runs
    F_runs_of := fun_mk (st := s_runs_of) l_runs_of c_runs_of k_runs_of
    b_runs_of := (fun_mk (st := s_runs_of) l_runs_of c_runs_of k_runs_of).binds fun _ _ _ _ _ _ us hl => match us, hl with | [_, _], _ => rfl
    mg_runs_of := PySem.W.mg_of X G xmg_runs_of
    F_check_order := fun_mk (st := s_check_order) l_check_order c_check_order k_check_order
    b_check_order := (fun_mk (st := s_check_order) l_check_order c_check_order k_check_order).binds fun _ _ _ _ _ _ us hl => match us, hl with | [_, _], _ => rfl
    mg_check_order := PySem.W.mg_of X G xmg_check_order
    F_broken := fun_mk (st := s_broken) l_broken c_broken k_broken
    b_broken := (fun_mk (st := s_broken) l_broken c_broken k_broken).binds fun _ _ _ _ _ _ us hl => match us, hl with | [_, _], _ => rfl
    mg_broken := PySem.W.mg_of X G xmg_broken
    F_is_layout := fun_mk (st := s_is_layout) l_is_layout c_is_layout k_is_layout
    b_is_layout := (fun_mk (st := s_is_layout) l_is_layout c_is_layout k_is_layout).binds fun _ _ _ _ _ _ us hl => match us, hl with | [_, _], _ => rfl
    mg_is_layout := PySem.W.mg_of X G xmg_is_layout
    F_check_columns := fun_mk (st := s_check_columns) l_check_columns c_check_columns k_check_columns
    b_check_columns := (fun_mk (st := s_check_columns) l_check_columns c_check_columns k_check_columns).binds fun _ _ _ _ _ _ us hl => match us, hl with | [_], _ => rfl
    mg_check_columns := PySem.W.mg_of X G xmg_check_columns
    F_check_rows := fun_mk (st := s_check_rows) l_check_rows c_check_rows k_check_rows
    b_check_rows := (fun_mk (st := s_check_rows) l_check_rows c_check_rows k_check_rows).binds fun _ _ _ _ _ _ us hl => match us, hl with | [_, _], _ => rfl
    mg_check_rows := PySem.W.mg_of X G xmg_check_rows
    F_Table_in_order := fun_mk (st := s_Table_in_order) l_Table_in_order c_Table_in_order k_Table_in_order
    b_Table_in_order := (fun_mk (st := s_Table_in_order) l_Table_in_order c_Table_in_order k_Table_in_order).binds fun _ _ _ _ _ _ us hl => match us, hl with | [_, _], _ => rfl
    m_Table_in_order := ⟨am_Table_in_order, if_Table_in_order, k_Table_in_order⟩
    F_Table_init := ⟨⟨_, _, _, _, _, _, _, _, _, _, rfl, l_Table_init, c_Table_init, .inr ⟨by simp, TD_Table_init, _, [.ref e_Table_init], _, rfl, lt_Table_init, rfl, .cons rfl .nil⟩, .inl rfl⟩, k_Table_init⟩
    m_Table_init := ⟨am_Table_init, if_Table_init, k_Table_init⟩
    F_Table_getitem := fun_mk (st := s_Table_getitem) l_Table_getitem c_Table_getitem k_Table_getitem
    b_Table_getitem := (fun_mk (st := s_Table_getitem) l_Table_getitem c_Table_getitem k_Table_getitem).binds fun _ _ _ _ _ _ us hl => match us, hl with | [_, _], _ => rfl
    m_Table_getitem := ⟨am_Table_getitem, if_Table_getitem, k_Table_getitem⟩
    F_Table_len := fun_mk (st := s_Table_len) l_Table_len c_Table_len k_Table_len
    b_Table_len := (fun_mk (st := s_Table_len) l_Table_len c_Table_len k_Table_len).binds fun _ _ _ _ _ _ us hl => match us, hl with | [_], _ => rfl
    m_Table_len := ⟨am_Table_len, if_Table_len, k_Table_len⟩
    F_Table_eq := fun_mk (st := s_Table_eq) l_Table_eq c_Table_eq k_Table_eq
    b_Table_eq := (fun_mk (st := s_Table_eq) l_Table_eq c_Table_eq k_Table_eq).binds fun _ _ _ _ _ _ us hl => match us, hl with | [_, _], _ => rfl
    m_Table_eq := ⟨am_Table_eq, if_Table_eq, k_Table_eq⟩
    F_Spans_init := fun_mk (st := s_Spans_init) l_Spans_init c_Spans_init k_Spans_init
    b_Spans_init := (fun_mk (st := s_Spans_init) l_Spans_init c_Spans_init k_Spans_init).binds fun _ _ _ _ _ _ us hl => match us, hl with | [_, _, _], _ => rfl
    m_Spans_init := ⟨am_Spans_init, if_Spans_init, k_Spans_init⟩
    F_has_time := fun_mk (st := s_has_time) l_has_time c_has_time k_has_time
    b_has_time := (fun_mk (st := s_has_time) l_has_time c_has_time k_has_time).binds fun _ _ _ _ _ _ us hl => match us, hl with | [_, _], _ => rfl
    mg_has_time := PySem.W.mg_of X G xmg_has_time
    F_are_times := fun_mk (st := s_are_times) l_are_times c_are_times k_are_times
    b_are_times := (fun_mk (st := s_are_times) l_are_times c_are_times k_are_times).binds fun _ _ _ _ _ _ us hl => match us, hl with | [_, _], _ => rfl
    mg_are_times := PySem.W.mg_of X G xmg_are_times
    F_ends_of := fun_mk (st := s_ends_of) l_ends_of c_ends_of k_ends_of
    b_ends_of := (fun_mk (st := s_ends_of) l_ends_of c_ends_of k_ends_of).binds fun _ _ _ _ _ _ us hl => match us, hl with | [_, _], _ => rfl
    mg_ends_of := PySem.W.mg_of X G xmg_ends_of
    F_time_of := fun_mk (st := s_time_of) l_time_of c_time_of k_time_of
    b_time_of := (fun_mk (st := s_time_of) l_time_of c_time_of k_time_of).binds fun _ _ _ _ _ _ us hl => match us, hl with | [_, _, _], _ => rfl
    mg_time_of := PySem.W.mg_of X G xmg_time_of
    F_check_years := fun_mk (st := s_check_years) l_check_years c_check_years k_check_years
    b_check_years := (fun_mk (st := s_check_years) l_check_years c_check_years k_check_years).binds fun _ _ _ _ _ _ us hl => match us, hl with | [_, _, _], _ => rfl
    mg_check_years := PySem.W.mg_of X G xmg_check_years
    F_check_layout := fun_mk (st := s_check_layout) l_check_layout c_check_layout k_check_layout
    b_check_layout := (fun_mk (st := s_check_layout) l_check_layout c_check_layout k_check_layout).binds fun _ _ _ _ _ _ us hl => match us, hl with | [_, _], _ => rfl
    mg_check_layout := PySem.W.mg_of X G xmg_check_layout
    F_law_cell := fun_mk (st := s_law_cell) l_law_cell c_law_cell k_law_cell
    b_law_cell := (fun_mk (st := s_law_cell) l_law_cell c_law_cell k_law_cell).binds fun _ _ _ _ _ _ us hl => match us, hl with | [_, _], _ => rfl
    mg_law_cell := PySem.W.mg_of X G xmg_law_cell
    F_law_pool := fun_mk (st := s_law_pool) l_law_pool c_law_pool k_law_pool
    b_law_pool := (fun_mk (st := s_law_pool) l_law_pool c_law_pool k_law_pool).binds fun _ _ _ _ _ _ us hl => match us, hl with | [_, _, _], _ => rfl
    mg_law_pool := PySem.W.mg_of X G xmg_law_pool
    F_law_size := fun_mk (st := s_law_size) l_law_size c_law_size k_law_size
    b_law_size := (fun_mk (st := s_law_size) l_law_size c_law_size k_law_size).binds fun _ _ _ _ _ _ us hl => match us, hl with | [_, _], _ => rfl
    mg_law_size := PySem.W.mg_of X G xmg_law_size
    F_law_names := fun_mk (st := s_law_names) l_law_names c_law_names k_law_names
    b_law_names := (fun_mk (st := s_law_names) l_law_names c_law_names k_law_names).binds fun _ _ _ _ _ _ us hl => match us, hl with | [_, _], _ => rfl
    mg_law_names := PySem.W.mg_of X G xmg_law_names
    F_law_order := fun_mk (st := s_law_order) l_law_order c_law_order k_law_order
    b_law_order := (fun_mk (st := s_law_order) l_law_order c_law_order k_law_order).binds fun _ _ _ _ _ _ us hl => match us, hl with | [_, _, _], _ => rfl
    mg_law_order := PySem.W.mg_of X G xmg_law_order
    F_law_row := fun_mk (st := s_law_row) l_law_row c_law_row k_law_row
    b_law_row := (fun_mk (st := s_law_row) l_law_row c_law_row k_law_row).binds fun _ _ _ _ _ _ us hl => match us, hl with | [_, _, _, _], _ => rfl
    mg_law_row := PySem.W.mg_of X G xmg_law_row
    F_law_rows := fun_mk (st := s_law_rows) l_law_rows c_law_rows k_law_rows
    b_law_rows := (fun_mk (st := s_law_rows) l_law_rows c_law_rows k_law_rows).binds fun _ _ _ _ _ _ us hl => match us, hl with | [_, _, _, _, _, _], _ => rfl
    mg_law_rows := PySem.W.mg_of X G xmg_law_rows
    F_law_steps := fun_mk (st := s_law_steps) l_law_steps c_law_steps k_law_steps
    b_law_steps := (fun_mk (st := s_law_steps) l_law_steps c_law_steps k_law_steps).binds fun _ _ _ _ _ _ us hl => match us, hl with | [_, _, _], _ => rfl
    mg_law_steps := PySem.W.mg_of X G xmg_law_steps
    F_law_time := fun_mk (st := s_law_time) l_law_time c_law_time k_law_time
    b_law_time := (fun_mk (st := s_law_time) l_law_time c_law_time k_law_time).binds fun _ _ _ _ _ _ us hl => match us, hl with | [_, _, _], _ => rfl
    mg_law_time := PySem.W.mg_of X G xmg_law_time
    F_law_told := fun_mk (st := s_law_told) l_law_told c_law_told k_law_told
    b_law_told := (fun_mk (st := s_law_told) l_law_told c_law_told k_law_told).binds fun _ _ _ _ _ _ us hl => match us, hl with | [_, _, _, _, _, _, _], _ => rfl
    mg_law_told := PySem.W.mg_of X G xmg_law_told
    F_law_is_number := fun_mk (st := s_law_is_number) l_law_is_number c_law_is_number k_law_is_number
    b_law_is_number := (fun_mk (st := s_law_is_number) l_law_is_number c_law_is_number k_law_is_number).binds fun _ _ _ _ _ _ us hl => match us, hl with | [_, _, _], _ => rfl
    mg_law_is_number := PySem.W.mg_of X G xmg_law_is_number
    F_law_unbroken := fun_mk (st := s_law_unbroken) l_law_unbroken c_law_unbroken k_law_unbroken
    b_law_unbroken := (fun_mk (st := s_law_unbroken) l_law_unbroken c_law_unbroken k_law_unbroken).binds fun _ _ _ _ _ _ us hl => match us, hl with | [_, _], _ => rfl
    mg_law_unbroken := PySem.W.mg_of X G xmg_law_unbroken
    F_law_bad_index := fun_mk (st := s_law_bad_index) l_law_bad_index c_law_bad_index k_law_bad_index
    b_law_bad_index := (fun_mk (st := s_law_bad_index) l_law_bad_index c_law_bad_index k_law_bad_index).binds fun _ _ _ _ _ _ us hl => match us, hl with | [_, _], _ => rfl
    mg_law_bad_index := PySem.W.mg_of X G xmg_law_bad_index
    F_law_bad_year := fun_mk (st := s_law_bad_year) l_law_bad_year c_law_bad_year k_law_bad_year
    b_law_bad_year := (fun_mk (st := s_law_bad_year) l_law_bad_year c_law_bad_year k_law_bad_year).binds fun _ _ _ _ _ _ us hl => match us, hl with | [_, _], _ => rfl
    mg_law_bad_year := PySem.W.mg_of X G xmg_law_bad_year
    F_law_due := fun_mk (st := s_law_due) l_law_due c_law_due k_law_due
    b_law_due := (fun_mk (st := s_law_due) l_law_due c_law_due k_law_due).binds fun _ _ _ _ _ _ us hl => match us, hl with | [_, _, _, _, _], _ => rfl
    mg_law_due := PySem.W.mg_of X G xmg_law_due
    F_law_checked := fun_mk (st := s_law_checked) l_law_checked c_law_checked k_law_checked
    b_law_checked := (fun_mk (st := s_law_checked) l_law_checked c_law_checked k_law_checked).binds fun _ _ _ _ _ _ us hl => match us, hl with | [_, _, _], _ => rfl
    mg_law_checked := PySem.W.mg_of X G xmg_law_checked
    F_law_refused := fun_mk (st := s_law_refused) l_law_refused c_law_refused k_law_refused
    b_law_refused := (fun_mk (st := s_law_refused) l_law_refused c_law_refused k_law_refused).binds fun _ _ _ _ _ _ us hl => match us, hl with | [_, _], _ => rfl
    mg_law_refused := PySem.W.mg_of X G xmg_law_refused
    F_law_free_spans := fun_mk (st := s_law_free_spans) l_law_free_spans c_law_free_spans k_law_free_spans
    b_law_free_spans := (fun_mk (st := s_law_free_spans) l_law_free_spans c_law_free_spans k_law_free_spans).binds fun _ _ _ _ _ _ us hl => match us, hl with | [_, _, _, _], _ => rfl
    mg_law_free_spans := PySem.W.mg_of X G xmg_law_free_spans
    F_law_other_years := fun_mk (st := s_law_other_years) l_law_other_years c_law_other_years k_law_other_years
    b_law_other_years := (fun_mk (st := s_law_other_years) l_law_other_years c_law_other_years k_law_other_years).binds fun _ _ _ _ _ _ us hl => match us, hl with | [_, _], _ => rfl
    mg_law_other_years := PySem.W.mg_of X G xmg_law_other_years
    F_law_other_order := fun_mk (st := s_law_other_order) l_law_other_order c_law_other_order k_law_other_order
    b_law_other_order := (fun_mk (st := s_law_other_order) l_law_other_order c_law_other_order k_law_other_order).binds fun _ _ _ _ _ _ us hl => match us, hl with | [_, _, _], _ => rfl
    mg_law_other_order := PySem.W.mg_of X G xmg_law_other_order
    F_law_bad_spans := fun_mk (st := s_law_bad_spans) l_law_bad_spans c_law_bad_spans k_law_bad_spans
    b_law_bad_spans := (fun_mk (st := s_law_bad_spans) l_law_bad_spans c_law_bad_spans k_law_bad_spans).binds fun _ _ _ _ _ _ us hl => match us, hl with | [_, _, _], _ => rfl
    mg_law_bad_spans := PySem.W.mg_of X G xmg_law_bad_spans
    F_law_bounds_right := fun_mk (st := s_law_bounds_right) l_law_bounds_right c_law_bounds_right k_law_bounds_right
    b_law_bounds_right := (fun_mk (st := s_law_bounds_right) l_law_bounds_right c_law_bounds_right k_law_bounds_right).binds fun _ _ _ _ _ _ us hl => match us, hl with | [_, _, _, _], _ => rfl
    mg_law_bounds_right := PySem.W.mg_of X G xmg_law_bounds_right
    F_law_many_right := fun_mk (st := s_law_many_right) l_law_many_right c_law_many_right k_law_many_right
    b_law_many_right := (fun_mk (st := s_law_many_right) l_law_many_right c_law_many_right k_law_many_right).binds fun _ _ _ _ _ _ us hl => match us, hl with | [_, _, _, _, _], _ => rfl
    mg_law_many_right := PySem.W.mg_of X G xmg_law_many_right
    F_law := fun_mk (st := s_law) l_law c_law k_law
    b_law := (fun_mk (st := s_law) l_law c_law k_law).binds fun _ _ _ _ _ _ us hl => match us, hl with | [_], _ => rfl
    mg_law := PySem.W.mg_of X G xmg_law
  }
  exact ⟨_, fun s v => .of_eq rfl, fun base _ _ => ok_law T⟩
theorem walk {l : PySem.W.OpenLaw} {q : Program} {loose : List Str} {XP : (Str → Option Value) → Heap → Prop} {YP : World → Heap → Prop} {d : DefRec} {K : Params → PySem.W.Frag} (hn : l.most = some 63) (hdf : d.params.defaults = [])
    (hY : ∀ (w : World) (h : Heap), YP w h → (K w.params).In h)
    (F : ∀ (w : World) (mg : Str → Option Value) (fa : Addr) (h : Heap), (K w.params).In h → h.Ns mainGlobals mg → mg d.name = some (.ref fa) →
      ∃ fd : FuncData, (∀ (s : Shared) (u : Value), BindsTo s fd ⟨[u], []⟩ [("script", u)]) ∧ ∀ base : Heap, (K w.params).In base → base.Ns mainGlobals mg → FnOk l.prog w (K w.params) mg base CX0 20 fa fd ["script"] (spLaw (K w.params))) :
    PySem.W.WalkO q loose XP YP l.row.toRowW d [] (fun f vs => PySem.call f vs) :=
  L2.walk_of (n := 63) (k := 20) (x := "script") (CX := fun _ => CX0) (sp := fun w => spLaw (K w.params)) hn (by decide) hdf ⟨rfl, by decide, by decide⟩ hY F (fun _ _ a ns hl _ hS => ⟨a, ns, rfl, hS, hl, fun _ => rfl⟩) fun _ _ _ _ _ z => z
end My
open PySem PySem.W PyProof.Rows
set_option maxRecDepth 100000 in
set_option maxHeartbeats 0 in
theorem PySem.Challenge.cw_unbrokenrows_k33_spans_and_checks_holds : PySem.Challenge.rw_unbrokenrows_k33_spans_and_checks.Holds := by
  w_on; o_law; k_head; (case hw => w_witness2)
  k_fill
  refine My.walk (l := PySem.Challenge.rw_unbrokenrows_k33_spans_and_checks) rfl rfl (fun w h Y => PySem.W.kIn_of Y) ?F
  case F =>
    intro w mg fa h KX G hmg
    refine' My.all_mk KX G hmg ?xmg_Table ?xmg_Spans ?xmg_RowsError ?xmg_Unknown ?xmg_Impossible ?xmg_BadOrder ?xmg_BadSpan ?xmg_BadYears ?xmg_BrokenSpan ?xmg_NotLayout ?am_BadOrder_init ?am_BadSpan_init ?am_BadYears_init ?am_BrokenSpan_init ?xmg_LONGEST_NAME ?xmg_MOST_SPANS ?xmg_MOST_YEARS ?xmg_is_name ?xmg_first_bad_name ?xmg_first_stray ?xmg_order_fault ?xmg_count_runs ?xmg_runs_of ?xmg_check_order ?xmg_broken ?xmg_is_layout ?xmg_check_columns ?xmg_check_rows ?am_Table_in_order ?am_Table_init ?am_Table_getitem ?am_Table_len ?am_Table_eq ?am_Spans_init ?xmg_has_time ?xmg_are_times ?xmg_ends_of ?xmg_time_of ?xmg_check_years ?xmg_check_layout ?xmg_law_cell ?xmg_law_pool ?xmg_law_size ?xmg_law_names ?xmg_law_order ?xmg_law_row ?xmg_law_rows ?xmg_law_steps ?xmg_law_time ?xmg_law_told ?xmg_law_is_number ?xmg_law_unbroken ?xmg_law_bad_index ?xmg_law_bad_year ?xmg_law_due ?xmg_law_checked ?xmg_law_refused ?xmg_law_free_spans ?xmg_law_other_years ?xmg_law_other_order ?xmg_law_bad_spans ?xmg_law_bounds_right ?xmg_law_many_right ?xmg_law ?if_Table_in_order ?if_Table_init ?if_Table_getitem ?if_Table_len ?if_Table_eq ?if_Spans_init ?l_BadOrder_init ?l_BadSpan_init ?l_BadYears_init ?l_BrokenSpan_init ?l_is_name ?l_first_bad_name ?l_first_stray ?l_order_fault ?l_count_runs ?l_runs_of ?l_check_order ?l_broken ?l_is_layout ?l_check_columns ?l_check_rows ?l_Table_in_order ?l_Table_init ?l_Table_getitem ?l_Table_len ?l_Table_eq ?l_Spans_init ?l_has_time ?l_are_times ?l_ends_of ?l_time_of ?l_check_years ?l_check_layout ?l_law_cell ?l_law_pool ?l_law_size ?l_law_names ?l_law_order ?l_law_row ?l_law_rows ?l_law_steps ?l_law_time ?l_law_told ?l_law_is_number ?l_law_unbroken ?l_law_bad_index ?l_law_bad_year ?l_law_due ?l_law_checked ?l_law_refused ?l_law_free_spans ?l_law_other_years ?l_law_other_order ?l_law_bad_spans ?l_law_bounds_right ?l_law_many_right ?l_law ?lx_BadOrder_init ?lq_BadOrder_init ?lx_BadSpan_init ?lq_BadSpan_init ?lx_BadYears_init ?lq_BadYears_init ?lx_BrokenSpan_init ?lq_BrokenSpan_init ?c_BadOrder_init ?c_BadSpan_init ?c_BadYears_init ?c_BrokenSpan_init ?c_is_name ?k_is_name ?c_first_bad_name ?k_first_bad_name ?c_first_stray ?k_first_stray ?c_order_fault ?k_order_fault ?c_count_runs ?k_count_runs ?c_runs_of ?k_runs_of ?c_check_order ?k_check_order ?c_broken ?k_broken ?c_is_layout ?k_is_layout ?c_check_columns ?k_check_columns ?c_check_rows ?k_check_rows ?c_Table_in_order ?k_Table_in_order ?c_Table_init ?k_Table_init ?lt_Table_init ?c_Table_getitem ?k_Table_getitem ?c_Table_len ?k_Table_len ?c_Table_eq ?k_Table_eq ?c_Spans_init ?k_Spans_init ?c_has_time ?k_has_time ?c_are_times ?k_are_times ?c_ends_of ?k_ends_of ?c_time_of ?k_time_of ?c_check_years ?k_check_years ?c_check_layout ?k_check_layout ?c_law_cell ?k_law_cell ?c_law_pool ?k_law_pool ?c_law_size ?k_law_size ?c_law_names ?k_law_names ?c_law_order ?k_law_order ?c_law_row ?k_law_row ?c_law_rows ?k_law_rows ?c_law_steps ?k_law_steps ?c_law_time ?k_law_time ?c_law_told ?k_law_told ?c_law_is_number ?k_law_is_number ?c_law_unbroken ?k_law_unbroken ?c_law_bad_index ?k_law_bad_index ?c_law_bad_year ?k_law_bad_year ?c_law_due ?k_law_due ?c_law_checked ?k_law_checked ?c_law_refused ?k_law_refused ?c_law_free_spans ?k_law_free_spans ?c_law_other_years ?k_law_other_years ?c_law_other_order ?k_law_other_order ?c_law_bad_spans ?k_law_bad_spans ?c_law_bounds_right ?k_law_bounds_right ?c_law_many_right ?k_law_many_right ?c_law ?k_law ?pgcl_Table ?hdcl_Table ?pocl_Table ?sacl_Table ?xsf_Table ?kmk_Table ?kkmk_Table ?xc1_Table ?xc3_Table ?xn_Table_columns ?xn_Table_rows ?pgcl_Spans ?hdcl_Spans ?pocl_Spans ?sacl_Spans ?xsf_Spans ?kmk_Spans ?kkmk_Spans ?xc1_Spans ?xc3_Spans ?xn_Spans_table ?xn_Spans_told ?xc2 ?xc4 ?xtp_RowsError ?xic_RowsError ?xtp_Unknown ?xic_Unknown ?xtp_Impossible ?xic_Impossible ?xtp_BadOrder ?xic_BadOrder ?xtp_BadSpan ?xic_BadSpan ?xtp_BadYears ?xic_BadYears ?xtp_BrokenSpan ?xic_BrokenSpan ?xtp_NotLayout ?xic_NotLayout ?g1SC_BadOrder ?g2SC_BadOrder ?ksSC_BadOrder ?g4SC_BadOrder ?g5SC_BadOrder ?rfSC_BadOrder ?kxSC_BadOrder ?g6SC_BadOrder ?rv_BadOrder_init ?rg_BadOrder_init ?xti_BadOrder ?xxn_BadOrder_index ?xk_BadOrder ?xbp_BadOrder ?xsv_BadOrder ?xss_BadOrder ?xsu_BadOrder_RowsError ?xsu_BadOrder_Unknown ?xsu_BadOrder_Impossible ?xe1_BadOrder ?xe2_BadOrder ?xe3_BadOrder ?xe4_BadOrder ?xe5_BadOrder ?g1SC_BadSpan ?g2SC_BadSpan ?ksSC_BadSpan ?g4SC_BadSpan ?g5SC_BadSpan ?rfSC_BadSpan ?kxSC_BadSpan ?g6SC_BadSpan ?rv_BadSpan_init ?rg_BadSpan_init ?xti_BadSpan ?xxn_BadSpan_index ?xk_BadSpan ?xbp_BadSpan ?xsv_BadSpan ?xss_BadSpan ?xsu_BadSpan_RowsError ?xsu_BadSpan_Unknown ?xsu_BadSpan_Impossible ?xe1_BadSpan ?xe2_BadSpan ?xe3_BadSpan ?xe4_BadSpan ?xe5_BadSpan ?g1SC_BadYears ?g2SC_BadYears ?ksSC_BadYears ?g4SC_BadYears ?g5SC_BadYears ?rfSC_BadYears ?kxSC_BadYears ?g6SC_BadYears ?rv_BadYears_init ?rg_BadYears_init ?xti_BadYears ?xxn_BadYears_index ?xk_BadYears ?xbp_BadYears ?xsv_BadYears ?xss_BadYears ?xsu_BadYears_RowsError ?xsu_BadYears_Unknown ?xsu_BadYears_Impossible ?xsu_BadYears_BadOrder ?xsu_BadYears_NotLayout ?xe1_BadYears ?xe2_BadYears ?xe3_BadYears ?xe4_BadYears ?xe5_BadYears ?g1SC_BrokenSpan ?g2SC_BrokenSpan ?ksSC_BrokenSpan ?g4SC_BrokenSpan ?g5SC_BrokenSpan ?rfSC_BrokenSpan ?kxSC_BrokenSpan ?g6SC_BrokenSpan ?rv_BrokenSpan_init ?rg_BrokenSpan_init ?xti_BrokenSpan ?xxn_BrokenSpan_index ?xk_BrokenSpan ?xbp_BrokenSpan ?xsv_BrokenSpan ?xss_BrokenSpan ?xsu_BrokenSpan_RowsError ?xsu_BrokenSpan_Unknown ?xsu_BrokenSpan_Impossible ?xsu_BrokenSpan_BadOrder ?xsu_BrokenSpan_NotLayout ?xsu_BrokenSpan_BadYears ?xe1_BrokenSpan ?xe2_BrokenSpan ?xe3_BrokenSpan ?xe4_BrokenSpan ?xe5_BrokenSpan ?xx_NotLayout ?xk_NotLayout ?xbp_NotLayout ?xsv_NotLayout ?xss_NotLayout ?xsu_NotLayout_RowsError ?xsu_NotLayout_Unknown ?xsu_NotLayout_Impossible ?xsu_NotLayout_BadOrder ?xe1_NotLayout ?xe2_NotLayout ?xe3_NotLayout ?xe4_NotLayout ?xe5_NotLayout ?r1cr_Table ?r2cr_Table ?xcv_Table_MOST_COLUMNS ?xcv_Table_MOST_ROWS ?xn_abs ?xn_int ?xn_isinstance ?xn_range ?xn_len ?xn_str ?xn_tuple ?xn_list ?xn_ValueError ?xn_all ?xn_min ?xn_max ?xn_enumerate ?xn_bool ?xn_sorted
    (case xmg_Table => k_is)
    (case xmg_Spans => k_is)
    (case xmg_RowsError => k_is)
    (case xmg_Unknown => k_is)
    (case xmg_Impossible => k_is)
    (case xmg_BadOrder => k_is)
    (case xmg_BadSpan => k_is)
    (case xmg_BadYears => k_is)
    (case xmg_BrokenSpan => k_is)
    (case xmg_NotLayout => k_is)
    (case am_BadOrder_init => k_is)
    (case am_BadSpan_init => k_is)
    (case am_BadYears_init => k_is)
    (case am_BrokenSpan_init => k_is)
    (case xmg_LONGEST_NAME => k_is)
    (case xmg_MOST_SPANS => k_is)
    (case xmg_MOST_YEARS => k_is)
    (case xmg_is_name => k_is)
    (case xmg_first_bad_name => k_is)
    (case xmg_first_stray => k_is)
    (case xmg_order_fault => k_is)
    (case xmg_count_runs => k_is)
    (case xmg_runs_of => k_is)
    (case xmg_check_order => k_is)
    (case xmg_broken => k_is)
    (case xmg_is_layout => k_is)
    (case xmg_check_columns => k_is)
    (case xmg_check_rows => k_is)
    (case am_Table_in_order => k_is)
    (case am_Table_init => k_is)
    (case am_Table_getitem => k_is)
    (case am_Table_len => k_is)
    (case am_Table_eq => k_is)
    (case am_Spans_init => k_is)
    (case xmg_has_time => k_is)
    (case xmg_are_times => k_is)
    (case xmg_ends_of => k_is)
    (case xmg_time_of => k_is)
    (case xmg_check_years => k_is)
    (case xmg_check_layout => k_is)
    (case xmg_law_cell => k_is)
    (case xmg_law_pool => k_is)
    (case xmg_law_size => k_is)
    (case xmg_law_names => k_is)
    (case xmg_law_order => k_is)
    (case xmg_law_row => k_is)
    (case xmg_law_rows => k_is)
    (case xmg_law_steps => k_is)
    (case xmg_law_time => k_is)
    (case xmg_law_told => k_is)
    (case xmg_law_is_number => k_is)
    (case xmg_law_unbroken => k_is)
    (case xmg_law_bad_index => k_is)
    (case xmg_law_bad_year => k_is)
    (case xmg_law_due => k_is)
    (case xmg_law_checked => k_is)
    (case xmg_law_refused => k_is)
    (case xmg_law_free_spans => k_is)
    (case xmg_law_other_years => k_is)
    (case xmg_law_other_order => k_is)
    (case xmg_law_bad_spans => k_is)
    (case xmg_law_bounds_right => k_is)
    (case xmg_law_many_right => k_is)
    (case xmg_law => k_is)
    (case if_Table_in_order => k_is)
    (case if_Table_init => k_is)
    (case if_Table_getitem => k_is)
    (case if_Table_len => k_is)
    (case if_Table_eq => k_is)
    (case if_Spans_init => k_is)
    (case l_BadOrder_init => k_is)
    (case l_BadSpan_init => k_is)
    (case l_BadYears_init => k_is)
    (case l_BrokenSpan_init => k_is)
    (case l_is_name => k_is)
    (case l_first_bad_name => k_is)
    (case l_first_stray => k_is)
    (case l_order_fault => k_is)
    (case l_count_runs => k_is)
    (case l_runs_of => k_is)
    (case l_check_order => k_is)
    (case l_broken => k_is)
    (case l_is_layout => k_is)
    (case l_check_columns => k_is)
    (case l_check_rows => k_is)
    (case l_Table_in_order => k_is)
    (case l_Table_init => k_is)
    (case l_Table_getitem => k_is)
    (case l_Table_len => k_is)
    (case l_Table_eq => k_is)
    (case l_Spans_init => k_is)
    (case l_has_time => k_is)
    (case l_are_times => k_is)
    (case l_ends_of => k_is)
    (case l_time_of => k_is)
    (case l_check_years => k_is)
    (case l_check_layout => k_is)
    (case l_law_cell => k_is)
    (case l_law_pool => k_is)
    (case l_law_size => k_is)
    (case l_law_names => k_is)
    (case l_law_order => k_is)
    (case l_law_row => k_is)
    (case l_law_rows => k_is)
    (case l_law_steps => k_is)
    (case l_law_time => k_is)
    (case l_law_told => k_is)
    (case l_law_is_number => k_is)
    (case l_law_unbroken => k_is)
    (case l_law_bad_index => k_is)
    (case l_law_bad_year => k_is)
    (case l_law_due => k_is)
    (case l_law_checked => k_is)
    (case l_law_refused => k_is)
    (case l_law_free_spans => k_is)
    (case l_law_other_years => k_is)
    (case l_law_other_order => k_is)
    (case l_law_bad_spans => k_is)
    (case l_law_bounds_right => k_is)
    (case l_law_many_right => k_is)
    (case l_law => k_is)
    (case lx_BadOrder_init => k_is)
    (case lq_BadOrder_init => k_is)
    (case lx_BadSpan_init => k_is)
    (case lq_BadSpan_init => k_is)
    (case lx_BadYears_init => k_is)
    (case lq_BadYears_init => k_is)
    (case lx_BrokenSpan_init => k_is)
    (case lq_BrokenSpan_init => k_is)
    (case c_BadOrder_init => k_is)
    (case c_BadSpan_init => k_is)
    (case c_BadYears_init => k_is)
    (case c_BrokenSpan_init => k_is)
    (case c_is_name => k_is)
    (case k_is_name => k_is)
    (case c_first_bad_name => k_is)
    (case k_first_bad_name => k_is)
    (case c_first_stray => k_is)
    (case k_first_stray => k_is)
    (case c_order_fault => k_is)
    (case k_order_fault => k_is)
    (case c_count_runs => k_is)
    (case k_count_runs => k_is)
    (case c_runs_of => k_is)
    (case k_runs_of => k_is)
    (case c_check_order => k_is)
    (case k_check_order => k_is)
    (case c_broken => k_is)
    (case k_broken => k_is)
    (case c_is_layout => k_is)
    (case k_is_layout => k_is)
    (case c_check_columns => k_is)
    (case k_check_columns => k_is)
    (case c_check_rows => k_is)
    (case k_check_rows => k_is)
    (case c_Table_in_order => k_is)
    (case k_Table_in_order => k_is)
    (case c_Table_init => k_is)
    (case k_Table_init => k_is)
    (case lt_Table_init => k_is)
    (case c_Table_getitem => k_is)
    (case k_Table_getitem => k_is)
    (case c_Table_len => k_is)
    (case k_Table_len => k_is)
    (case c_Table_eq => k_is)
    (case k_Table_eq => k_is)
    (case c_Spans_init => k_is)
    (case k_Spans_init => k_is)
    (case c_has_time => k_is)
    (case k_has_time => k_is)
    (case c_are_times => k_is)
    (case k_are_times => k_is)
    (case c_ends_of => k_is)
    (case k_ends_of => k_is)
    (case c_time_of => k_is)
    (case k_time_of => k_is)
    (case c_check_years => k_is)
    (case k_check_years => k_is)
    (case c_check_layout => k_is)
    (case k_check_layout => k_is)
    (case c_law_cell => k_is)
    (case k_law_cell => k_is)
    (case c_law_pool => k_is)
    (case k_law_pool => k_is)
    (case c_law_size => k_is)
    (case k_law_size => k_is)
    (case c_law_names => k_is)
    (case k_law_names => k_is)
    (case c_law_order => k_is)
    (case k_law_order => k_is)
    (case c_law_row => k_is)
    (case k_law_row => k_is)
    (case c_law_rows => k_is)
    (case k_law_rows => k_is)
    (case c_law_steps => k_is)
    (case k_law_steps => k_is)
    (case c_law_time => k_is)
    (case k_law_time => k_is)
    (case c_law_told => k_is)
    (case k_law_told => k_is)
    (case c_law_is_number => k_is)
    (case k_law_is_number => k_is)
    (case c_law_unbroken => k_is)
    (case k_law_unbroken => k_is)
    (case c_law_bad_index => k_is)
    (case k_law_bad_index => k_is)
    (case c_law_bad_year => k_is)
    (case k_law_bad_year => k_is)
    (case c_law_due => k_is)
    (case k_law_due => k_is)
    (case c_law_checked => k_is)
    (case k_law_checked => k_is)
    (case c_law_refused => k_is)
    (case k_law_refused => k_is)
    (case c_law_free_spans => k_is)
    (case k_law_free_spans => k_is)
    (case c_law_other_years => k_is)
    (case k_law_other_years => k_is)
    (case c_law_other_order => k_is)
    (case k_law_other_order => k_is)
    (case c_law_bad_spans => k_is)
    (case k_law_bad_spans => k_is)
    (case c_law_bounds_right => k_is)
    (case k_law_bounds_right => k_is)
    (case c_law_many_right => k_is)
    (case k_law_many_right => k_is)
    (case c_law => k_is)
    (case k_law => k_is)
    (case pgcl_Table => k_is)
    (case hdcl_Table => k_is)
    (case pocl_Table => k_is)
    (case sacl_Table => k_is)
    (case xsf_Table => k_is)
    (case kmk_Table => k_is)
    (case kkmk_Table => k_is)
    (case xc1_Table => k_is)
    (case xc3_Table => k_is)
    (case xn_Table_columns => k_is)
    (case xn_Table_rows => k_is)
    (case pgcl_Spans => k_is)
    (case hdcl_Spans => k_is)
    (case pocl_Spans => k_is)
    (case sacl_Spans => k_is)
    (case xsf_Spans => k_is)
    (case kmk_Spans => k_is)
    (case kkmk_Spans => k_is)
    (case xc1_Spans => k_is)
    (case xc3_Spans => k_is)
    (case xn_Spans_table => k_is)
    (case xn_Spans_told => k_is)
    (case xc2 => k_is)
    (case xc4 => k_is)
    (case xtp_RowsError => k_is)
    (case xic_RowsError => k_is)
    (case xtp_Unknown => k_is)
    (case xic_Unknown => k_is)
    (case xtp_Impossible => k_is)
    (case xic_Impossible => k_is)
    (case xtp_BadOrder => k_is)
    (case xic_BadOrder => k_is)
    (case xtp_BadSpan => k_is)
    (case xic_BadSpan => k_is)
    (case xtp_BadYears => k_is)
    (case xic_BadYears => k_is)
    (case xtp_BrokenSpan => k_is)
    (case xic_BrokenSpan => k_is)
    (case xtp_NotLayout => k_is)
    (case xic_NotLayout => k_is)
    (case g1SC_BadOrder => k_is)
    (case g2SC_BadOrder => k_is)
    (case ksSC_BadOrder => ks_is)
    (case g4SC_BadOrder => k_is)
    (case g5SC_BadOrder => k_is)
    (case rfSC_BadOrder => first | rfl | decide +kernel)
    (case kxSC_BadOrder => kx_is)
    (case g6SC_BadOrder => k_is)
    (case rv_BadOrder_init => first | rfl | decide +kernel)
    (case rg_BadOrder_init => first | rfl | decide +kernel)
    (case xti_BadOrder => k_is)
    (case xxn_BadOrder_index => k_is)
    (case xk_BadOrder => k_is)
    (case xbp_BadOrder => k_is)
    (case xsv_BadOrder => k_is)
    (case xss_BadOrder => k_is)
    (case xsu_BadOrder_RowsError => k_is)
    (case xsu_BadOrder_Unknown => k_is)
    (case xsu_BadOrder_Impossible => k_is)
    (case xe1_BadOrder => k_is)
    (case xe2_BadOrder => k_is)
    (case xe3_BadOrder => k_is)
    (case xe4_BadOrder => k_is)
    (case xe5_BadOrder => k_is)
    (case g1SC_BadSpan => k_is)
    (case g2SC_BadSpan => k_is)
    (case ksSC_BadSpan => ks_is)
    (case g4SC_BadSpan => k_is)
    (case g5SC_BadSpan => k_is)
    (case rfSC_BadSpan => first | rfl | decide +kernel)
    (case kxSC_BadSpan => kx_is)
    (case g6SC_BadSpan => k_is)
    (case rv_BadSpan_init => first | rfl | decide +kernel)
    (case rg_BadSpan_init => first | rfl | decide +kernel)
    (case xti_BadSpan => k_is)
    (case xxn_BadSpan_index => k_is)
    (case xk_BadSpan => k_is)
    (case xbp_BadSpan => k_is)
    (case xsv_BadSpan => k_is)
    (case xss_BadSpan => k_is)
    (case xsu_BadSpan_RowsError => k_is)
    (case xsu_BadSpan_Unknown => k_is)
    (case xsu_BadSpan_Impossible => k_is)
    (case xe1_BadSpan => k_is)
    (case xe2_BadSpan => k_is)
    (case xe3_BadSpan => k_is)
    (case xe4_BadSpan => k_is)
    (case xe5_BadSpan => k_is)
    (case g1SC_BadYears => k_is)
    (case g2SC_BadYears => k_is)
    (case ksSC_BadYears => ks_is)
    (case g4SC_BadYears => k_is)
    (case g5SC_BadYears => k_is)
    (case rfSC_BadYears => first | rfl | decide +kernel)
    (case kxSC_BadYears => kx_is)
    (case g6SC_BadYears => k_is)
    (case rv_BadYears_init => first | rfl | decide +kernel)
    (case rg_BadYears_init => first | rfl | decide +kernel)
    (case xti_BadYears => k_is)
    (case xxn_BadYears_index => k_is)
    (case xk_BadYears => k_is)
    (case xbp_BadYears => k_is)
    (case xsv_BadYears => k_is)
    (case xss_BadYears => k_is)
    (case xsu_BadYears_RowsError => k_is)
    (case xsu_BadYears_Unknown => k_is)
    (case xsu_BadYears_Impossible => k_is)
    (case xsu_BadYears_BadOrder => k_is)
    (case xsu_BadYears_NotLayout => k_is)
    (case xe1_BadYears => k_is)
    (case xe2_BadYears => k_is)
    (case xe3_BadYears => k_is)
    (case xe4_BadYears => k_is)
    (case xe5_BadYears => k_is)
    (case g1SC_BrokenSpan => k_is)
    (case g2SC_BrokenSpan => k_is)
    (case ksSC_BrokenSpan => ks_is)
    (case g4SC_BrokenSpan => k_is)
    (case g5SC_BrokenSpan => k_is)
    (case rfSC_BrokenSpan => first | rfl | decide +kernel)
    (case kxSC_BrokenSpan => kx_is)
    (case g6SC_BrokenSpan => k_is)
    (case rv_BrokenSpan_init => first | rfl | decide +kernel)
    (case rg_BrokenSpan_init => first | rfl | decide +kernel)
    (case xti_BrokenSpan => k_is)
    (case xxn_BrokenSpan_index => k_is)
    (case xk_BrokenSpan => k_is)
    (case xbp_BrokenSpan => k_is)
    (case xsv_BrokenSpan => k_is)
    (case xss_BrokenSpan => k_is)
    (case xsu_BrokenSpan_RowsError => k_is)
    (case xsu_BrokenSpan_Unknown => k_is)
    (case xsu_BrokenSpan_Impossible => k_is)
    (case xsu_BrokenSpan_BadOrder => k_is)
    (case xsu_BrokenSpan_NotLayout => k_is)
    (case xsu_BrokenSpan_BadYears => k_is)
    (case xe1_BrokenSpan => k_is)
    (case xe2_BrokenSpan => k_is)
    (case xe3_BrokenSpan => k_is)
    (case xe4_BrokenSpan => k_is)
    (case xe5_BrokenSpan => k_is)
    (case xx_NotLayout => k_exc)
    (case xk_NotLayout => k_is)
    (case xbp_NotLayout => k_is)
    (case xsv_NotLayout => k_is)
    (case xss_NotLayout => k_is)
    (case xsu_NotLayout_RowsError => k_is)
    (case xsu_NotLayout_Unknown => k_is)
    (case xsu_NotLayout_Impossible => k_is)
    (case xsu_NotLayout_BadOrder => k_is)
    (case xe1_NotLayout => k_is)
    (case xe2_NotLayout => k_is)
    (case xe3_NotLayout => k_is)
    (case xe4_NotLayout => k_is)
    (case xe5_NotLayout => k_is)
    (case r1cr_Table => k_is)
    (case r2cr_Table => k_is)
    (case xcv_Table_MOST_COLUMNS => k_is)
    (case xcv_Table_MOST_ROWS => k_is)
    (case xn_abs => k_is)
    (case xn_int => k_is)
    (case xn_isinstance => k_is)
    (case xn_range => k_is)
    (case xn_len => k_is)
    (case xn_str => k_is)
    (case xn_tuple => k_is)
    (case xn_list => k_is)
    (case xn_ValueError => k_is)
    (case xn_all => k_is)
    (case xn_min => k_is)
    (case xn_max => k_is)
    (case xn_enumerate => k_is)
    (case xn_bool => k_is)
    (case xn_sorted => k_is)
#print axioms PySem.Challenge.cw_unbrokenrows_k33_spans_and_checks_holds
